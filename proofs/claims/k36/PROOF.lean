import PyProof.Rows.All
import Wide.All
import OpenK.AllK
import Wide.FinOn
import Lean
import PyProof.EqAt
import PyProof.EqKinds
import PyProof.TupleCall
import PyProof.Rows.TupIter
import PyProof.ZipIter
import PyProof.MinMaxWalk
import PyProof.WalkInts
import PyProof.WalksMore
import PyProof.SeqI3
import PyProof.Rows.SetFrom
import PyProof.Rows.SortShell
import OpenK.KMore
import KE.KSortTup
import KE.KLam
import KE.KDictSum
import PySem.SetTable
import PyProof.SetNew
import PyProof.SetRoads
import PyProof.CollectWalk
import PyProof.ListNew
import PyProof.SumWalkG
import PySem.Challenge.RW_runmarks_k36_whole_joins_undone
set_option maxHeartbeats 4000000
local macro_rules | `(tactic| omega) => `(tactic| lia)
local macro_rules | `(tactic| walk_at "l") => `(tactic| first | exact Or.inl rfl | exact Or.inr rfl)
local macro_rules | `(tactic| walk_at "s") => `(tactic| exact ⟨rfl,rfl,rfl,by decide +kernel,rfl,by decide +kernel,by decide +kernel⟩)
set_option Elab.async false
set_option linter.all false
set_option maxRecDepth 100000
namespace L2
open PySem PySem.Spec PyProof.Rows
abbrev Key:=Sum Int Str
def keyIs:Key→Value→Bool
 | .inl k,v=>Value.isInt k v
 | .inr x,v=>Value.isStrOf x v
def keyH (w:World):Key→Int
 | .inl k=>hashInt k
 | .inr x=>hashStr w x
theorem ZaE:∀ {k:Key} {v:Value},keyIs k v=true→(∃ i t,k=Sum.inl i∧v=Value.int i t)∨(∃ x t,k=Sum.inr x∧v=Value.str x t)
 | .inl i,v,h=>by
   obtain ⟨t,e⟩:=Value.isInt_shape (k:=i) (v:=v) h;exact .inl ⟨i,t,rfl,e⟩
 | .inr x,v,h=>by
   obtain ⟨t,e⟩:=Value.isStrOf_shape (x:=x) (v:=v) h;exact .inr ⟨x,t,rfl,e⟩
theorem ZjQ (i:Int)(t:Tok):keyIs (.inl i) (.int i t)=true:=by simp [keyIs,Value.isInt]
theorem Zkb (x:Str)(t:Tok):keyIs (.inr x) (.str x t)=true:=by simp [keyIs,Value.isStrOf]
theorem key_ll (a b:Int):decide ((Sum.inl a:Key)=Sum.inl b)=(a==b):=by
 by_cases e:a=b
 · subst e;simp
 · have h:¬ (Sum.inl a:Key)=Sum.inl b:=fun q=>e (Sum.inl.inj q)
   rw [decide_eq_false h];exact (beq_eq_false_iff_ne.mpr e).symm
theorem key_rr (a b:Str):decide ((Sum.inr a:Key)=Sum.inr b)=decide (a=b):=by
 by_cases e:a=b
 · subst e;simp
 · have h:¬ (Sum.inr a:Key)=Sum.inr b:=fun q=>e (Sum.inr.inj q)
   rw [decide_eq_false h,decide_eq_false e]
theorem key_lr (a:Int)(b:Str):decide ((Sum.inl a:Key)=Sum.inr b)=false:=decide_eq_false (fun q=>nomatch q)
theorem key_rl (a:Str)(b:Int):decide ((Sum.inr a:Key)=Sum.inl b)=false:=decide_eq_false (fun q=>nomatch q)
def mixKind (prog:Program) (w:World):PySem.KeyKind prog w Key where
 is:=keyIs
 hash:=keyH w
 inj := fun v a b ha hb=>by
   rcases ZaE ha with ⟨i,t,rfl,rfl⟩ | ⟨x,t,rfl,rfl⟩
   · rcases ZaE hb with ⟨j,u,rfl,e⟩ | ⟨y,u,rfl,e⟩
     · injection e with e1 _;rw [e1]
     · exact nomatch e
   · rcases ZaE hb with ⟨j,u,rfl,e⟩ | ⟨y,u,rfl,e⟩
     · exact nomatch e
     · injection e with e1 _;rw [e1]
 byValue:=fun k v h=>by
   rcases ZaE h with ⟨i,t,rfl,rfl⟩ | ⟨x,t,rfl,rfl⟩<;>rfl
 pyHash:=fun hv h=>by
   rcases ZaE hv with ⟨i,t,rfl,rfl⟩ | ⟨x,t,rfl,rfl⟩
   · exact wpAny_pyHash_int h
   · exact wpAny_pyHash_str h
 eqBool:=fun hu hv h=>by
   rcases ZaE hu with ⟨i,t,rfl,rfl⟩ | ⟨x,t,rfl,rfl⟩
   · rcases ZaE hv with ⟨j,u,rfl,rfl⟩ | ⟨y,u,rfl,rfl⟩
     · rw [key_ll] at h;exact wpAny_eqBool_int h
     · rw [key_lr] at h;exact SeqAt.EqAt.int_str i t y u _ _ _ _ h
   · rcases ZaE hv with ⟨j,u,rfl,rfl⟩ | ⟨y,u,rfl,rfl⟩
     · rw [key_rl] at h;exact SeqAt.EqAt.str_int x t j u _ _ _ _ h
     · rw [key_rr] at h;exact wpAny_eqBool_str h
 «strs»:=fun k x t v h=>by
   rcases ZaE h with ⟨i,u,rfl,e⟩ | ⟨y,u,rfl,e⟩
   · exact nomatch e
   · injection e with e1 _
     subst e1;cases v<;>rfl
theorem Zh8 (prog:Program)(w:World)(k:Key)(v:Value):(mixKind prog w).is k v=keyIs k v:=rfl
theorem Zg8 (prog:Program)(w:World)(i:Int)(t:Tok):(mixKind prog w).is (.inl i) (.int i t)=true:=ZjQ i t
theorem ZgR (prog:Program)(w:World)(x:Str)(t:Tok):(mixKind prog w).is (.inr x) (.str x t)=true:=Zkb x t
end L2
namespace L2
open PySem PySem.Spec PyProof.Rows
inductive V where
 | non | bl (b:Bool) | int (i:Int) | str (x:Str) | byt (b:Array UInt8) | flt (b:UInt64) | ref (a:Addr) | ty (n:String)
 deriving DecidableEq
def RelV:V→Value→Prop
 | .non,u=>u=Value.none
 | .bl b,u=>u=Value.bool b
 | .int i,u=>∃ t,u=Value.int i t
 | .str x,u=>∃ t,u=Value.str x t
 | .byt b,u=>∃ t,u=Value.bytes b t
 | .flt b,u=>∃ t,u=Value.float b t
 | .ref a,u=>u=Value.ref a
 | .ty n,u=>u=Value.type n
abbrev Vals:List V→List Value→Prop:=Paired RelV
theorem Vals.length {xs:List V}{us:List Value}(r:Vals xs us):xs.length=us.length:=Paired.length r
theorem Vals.get:∀ {xs:List V} {us:List Value} {i:Nat} {x:V},Vals xs us→xs[i]?=some x→∃ u,us[i]?=some u∧RelV x u
 | _,_,_,_,.nil,e=>by simp at e
 | _,_,0,_,.cons r _,e=>by simp at e;subst e;exact ⟨_,rfl,r⟩
 | _,_,i+1,x,.cons _ t,e=>by
   obtain ⟨u,h1,h2⟩:=Vals.get (i:=i) (x:=x) t (by simpa using e);exact ⟨u,by simpa using h1,h2⟩
theorem Vals.append:∀ {xs ys:List V} {us ws:List Value},Vals xs us→Vals ys ws→Vals (xs++ys) (us++ws)
 | _,_,_,_,.nil,s=>s
 | _,_,_,_,.cons r t,s=>.cons r (Vals.append t s)
theorem Vals.take:∀ {xs:List V} {us:List Value} (n:Nat),Vals xs us→Vals (xs.take n) (us.take n)
 | _,_,0,_=>.nil
 | _,_,_+1,.nil=>.nil
 | _,_,n+1,.cons r t=>.cons r (Vals.take n t)
theorem Vals.drop:∀ {xs:List V} {us:List Value} (n:Nat),Vals xs us→Vals (xs.drop n) (us.drop n)
 | _,_,0,r=>r
 | _,_,_+1,.nil=>.nil
 | _,_,n+1,.cons _ t=>Vals.drop n t
def RelO:Option V→Option Value→Prop
 | some v,some u=>RelV v u
 | none,none=>True
 | _,_=>False
def KV {κ:Type}:List (κ × V)→List (κ × Value)→Prop:=Paired fun (p:κ × V) (q:κ × Value)=>p.1=q.1∧RelV p.2 q.2
def kV:Key→V
 | .inl i=>.int i
 | .inr x=>.str x
inductive HO where
 | lst (xs:List V)
 | tup (xs:List V)
 | dK (kvs:List (Key × V)) | dT (kvs:List (List Key × V))
 | set (S:Int→Bool) (n:Nat)
 | ins (C dx:Addr) (fs:List (Str × V))
 | own (x:Addr)
 | xd (fs:List (Str × V))
 | met (f x:Addr)
 | rng (lo hi:Int)
 | frz (o:Obj) (u:HO)
 | tbl (ps:Array Value)
 | ext (φ:Heap→Prop)
abbrev Hp:=Addr→Option HO
def upd (H:Hp)(a:Addr)(o:HO):Hp:=fun b=>if b=a then some o else H b
theorem Zac {H:Hp}{a:Addr}{o:HO}:upd H a o a=some o:=by unfold upd;rw [if_pos rfl]
theorem Zag {H:Hp}{a b:Addr}{o:HO}(h:b≠a):upd H a o b=H b:=by unfold upd;rw [if_neg h]
theorem upd_upd {H:Hp}{a:Addr}{o u:HO}:upd (upd H a o) a u=upd H a u:=by funext b;unfold upd;split<;>rfl
theorem ne_of {H:Hp}{a b:Addr}{o u:HO}(h:H a=some o)(h':H b=some u)(d:o≠u):a≠b:=by intro e;subst e;rw [h] at h';exact d (Option.some.inj h')
theorem Zar {H:Hp}{a b:Addr}{o:HO}(h:H a=some o)(h':H b=none):a≠b:=by intro e;subst e;rw [h] at h';cases h'
section
variable (P:Program)(w:World)
def ObjOk (H:Hp)(h:Heap)(a:Addr):HO→Prop
 | .lst xs=>xs.length≤sizeLine∧∃ (its:List Value) (n:Nat),Vals xs its∧h.get? a=some { cls:=.type "list",data:=.seq its.toArray n }
 | .tup xs=>xs.length≤sizeLine∧∃ its:List Value,Vals xs its∧IsTup h a its.toArray
 | .dK kvs=>kvs.length≤sizeLine∧(a==sysModules)=false∧∃ vs,KV kvs vs∧h.DictOf (mixKind P w) a vs
 | .dT kvs=>kvs.length≤sizeLine∧(a==sysModules)=false∧∃ xs:List (List Key × Addr × Value),
     Paired (fun (p:List Key × V) (q:List Key × Addr × Value)=>p.1=q.1∧H q.2.1=some (.tup (p.1.map kV))∧RelV p.2 q.2.2) kvs xs ∧
     ∃ o es ep,h.get? a=some o∧o.ExactDict∧o.data=.dict es ep∧es.toList=xs.map (entryOfKey (tupleKind (mixKind P w)))∧(xs.map (·.1)).Nodup
 | .set S n=>h.SetOf (intKind P w) a S n
 | .ins C dx fs=>H dx=some (.own a)∧fs.length≤1000∧dx≠a∧h.get? a=some (PySem.W.instObj C dx) ∧
     ∃ mA,h.Ns1 dx mA∧(∀ f,RelO (fs.lookup f) (mA f))∧PySem.Within mA (fs.map (·.1))
 | .own _=>∃ o,h.get? a=some o
 | .xd fs=>∃ mA,h.Ns1 a mA∧∀ f,RelO (fs.lookup f) (mA f)
 | .rng lo hi=>∃ t u v,h.get? a=some { cls:=.type "range",data:=.fields #[.int lo t,.int hi u,.int 1 v] }
 | .frz o u=>h.get? a=some o∧ObjOk H h a u
 | .tbl ps=>h.get? a=some { cls:=.none,data:=.fields ps }
 | .met f x=>h.get? a=some (PySem.W.methodObj (.ref f) (.ref x))
 | .ext φ=>φ h∧(∃ o,h.get? a=some o)∧∀ h1 h2:Heap,φ h1→(∀ o,h1.get? a=some o→h2.get? a=some o)→φ h2
def HOk (H:Hp)(h:Heap):Prop:=∀ a o,H a=some o→ObjOk P w H h a o
end
section
variable {P:Program}{w:World}{H H':Hp}{h h':Heap}{a:Addr}{o:HO}
theorem ObjOk.lt (x:ObjOk P w H h a o):a<h.objs.size:=by
 cases o with
 | lst xs=>obtain ⟨_,_,_,_,e⟩:=x;exact Heap.lt_size e
 | tup xs=>obtain ⟨_,_,_,p⟩:=x;exact p.lt
 | dK kvs=>obtain ⟨_,_,_,_,o,_,_,e,_⟩:=x;exact Heap.lt_size e
 | dT kvs=>obtain ⟨_,_,_,_,o,_,_,e,_⟩:=x;exact Heap.lt_size e
 | set S n=>obtain ⟨o,_,_,_,e,_⟩:=x;exact Heap.lt_size e
 | ins C dx fs=>obtain ⟨_,_,_,e,_⟩:=x;exact Heap.lt_size e
 | own y=>obtain ⟨_,e⟩:=x;exact Heap.lt_size e
 | xd fs=>obtain ⟨_,⟨_,_,_,e,_⟩,_⟩:=x;exact Heap.lt_size e
 | rng lo hi=>obtain ⟨_,_,_,e⟩:=x;exact Heap.lt_size e
 | frz ob u=>obtain ⟨e,_⟩:=x;exact Heap.lt_size e
 | tbl ps=>exact Heap.lt_size (show h.get? a=some _ from x)
 | met f y=>exact Heap.lt_size (show h.get? a=some _ from x)
 | ext φ=>obtain ⟨_,⟨_,e⟩,_⟩:=x;exact Heap.lt_size e
theorem Paired.mapP {α β:Type}{F G:α→β→Prop}:∀ {l₁:List α} {l₂:List β},Paired F l₁ l₂→(∀ a b,F a b→G a b)→Paired G l₁ l₂
 | _,_,.nil,_=>.nil
 | _,_,.cons r t,f=>.cons (f _ _ r) (Paired.mapP t f)
theorem ObjOk.stay (x:ObjOk P w H h a o)(k:∀ b u,(b=a∨H b=some (.own a))→h.get? b=some u→h'.get? b=some u)
   (ho:∀ b,H b=some (.own a)→H' b=some (.own a)) (ht:∀ b xs,H b=some (.tup xs)→H' b=some (.tup xs)):ObjOk P w H' h' a o:=by
 induction o with
 | lst xs=>obtain ⟨z,its,n,r,e⟩:=x;exact ⟨z,its,n,r,k _ _ (.inl rfl) e⟩
 | tup xs=>obtain ⟨z,its,r,ob,e,c⟩:=x;exact ⟨z,its,r,ob,k _ _ (.inl rfl) e,c⟩
 | dK kvs=>obtain ⟨z,y,vs,r,ob,es,ep,e,c⟩:=x;exact ⟨z,y,vs,r,ob,es,ep,k _ _ (.inl rfl) e,c⟩
 | dT kvs =>
   obtain ⟨z,y,xs,r,ob,es,ep,e,c⟩:=x;exact ⟨z,y,xs,Paired.mapP r fun p q z=>⟨z.1,ht _ _ z.2.1,z.2.2⟩,ob,es,ep,k _ _ (.inl rfl) e,c⟩
 | set S n=>obtain ⟨ob,es,ep,t,e,c⟩:=x;exact ⟨ob,es,ep,t,k _ _ (.inl rfl) e,c⟩
 | ins C dx fs =>
   obtain ⟨d,z,ne,e,mA,⟨od,es,ep,e2,c⟩,r⟩:=x;exact ⟨ho _ d,z,ne,k _ _ (.inl rfl) e,mA,⟨od,es,ep,k _ _ (.inr d) e2,c⟩,r⟩
 | own y=>obtain ⟨ob,e⟩:=x;exact ⟨ob,k _ _ (.inl rfl) e⟩
 | xd fs=>obtain ⟨mA,⟨od,es,ep,e,c⟩,r⟩:=x;exact ⟨mA,⟨od,es,ep,k _ _ (.inl rfl) e,c⟩,r⟩
 | rng lo hi=>obtain ⟨t,u,v,e⟩:=x;exact ⟨t,u,v,k _ _ (.inl rfl) e⟩
 | frz ob u ih=>obtain ⟨e,q⟩:=x;exact ⟨k _ _ (.inl rfl) e,ih q⟩
 | tbl ps =>
   have e:h.get? a=some { cls:=.none,data:=.fields ps }:=x;show h'.get? a=some { cls:=.none,data:=.fields ps };exact k a _ (.inl rfl) e
 | met f y =>
   have e:h.get? a=some (PySem.W.methodObj (.ref f) (.ref y)):=x;show h'.get? a=some (PySem.W.methodObj (.ref f) (.ref y));exact k a _ (.inl rfl) e
 | ext φ=>obtain ⟨p,⟨o,e⟩,st⟩:=x;exact ⟨st _ _ p fun o q=>k _ _ (.inl rfl) q,⟨o,k _ _ (.inl rfl) e⟩,st⟩
theorem HOk.lt (x:HOk P w H h)(e:H a=some o):a<h.objs.size:=(x a o e).lt
theorem HOk.fresh (x:HOk P w H h)(e:h.objs.size≤a):H a=none:=by
 cases q:H a with
 | none=>rfl
 | some u=>exact absurd (Nat.lt_of_lt_of_le (x.lt q) e) (Nat.lt_irrefl _)
theorem HOk.kept (x:HOk P w H h)(k:∀ b u,h.get? b=some u→h'.get? b=some u):HOk P w H h':=fun a o e =>
 (x a o e).stay (fun b u _ q=>k b u q) (fun _ q=>q) fun _ _ q=>q
theorem HOk.laid (x:HOk P w H h)(k:∀ b u,h.get? b=some u→h'.get? b=some u)(hp:h.objs.size≤a)(new:ObjOk P w (upd H a o) h' a o):HOk P w (upd H a o) h':=fun b u e=>by
 have hn:=x.fresh hp;by_cases hb:b=a
 · subst hb;rw [Zac] at e;cases e;exact new
 · rw [Zag hb] at e
   exact (x b u e).stay (fun c v _ q=>k c v q) (fun c q=>by rw [Zag (Zar q hn)];exact q) fun c xs q=>by rw [Zag (Zar q hn)];exact q
end
def Rd (H:Hp)(a:Addr)(u:HO):Prop:=H a=some u∨∃ o,H a=some (.frz o u)
theorem Rd.ok {P:Program}{w:World}{H:Hp}{h:Heap}{a:Addr}{u:HO}(r:Rd H a u)(x:HOk P w H h):ObjOk P w H h a u:=by
 rcases r with r | ⟨o,r⟩
 · exact x a u r
 · obtain ⟨_,q⟩:=x a _ r
   exact q
def Mut:Option HO→Prop
 | some (.lst _)=>True
 | some (.dK _)=>True
 | some (.dT _)=>True
 | some (.set _ _)=>True
 | some (.ins _ _ _)=>True
 | some (.ext _)=>True
 | _=>False
section
variable {P:Program}{w:World}{H:Hp}{h h':Heap}{x e:Addr}{o':HO}
theorem HOk.write (ok:HOk P w H h) (mu:Mut (H x)) (he:e=x∨H e=some (.own x)) (k:∀ b u,b≠e→h.get? b=some u→h'.get? b=some u) (heo:∃ u,h'.get? e=some u)
   (new:ObjOk P w (upd H x o') h' x o'):HOk P w (upd H x o') h':=fun b u q=>by
 have nown:∀ c y,H c=some (.own y)→c≠x:=fun c y r z=>by subst z;rw [r] at mu;exact mu
 have ntup:∀ c xs,H c=some (.tup xs)→c≠x:=fun c xs r z=>by subst z;rw [r] at mu;exact mu
 by_cases hb:b=x
 · subst hb;rw [Zac] at q;cases q;exact new
 · rw [Zag hb] at q
   by_cases hbe:b=e
   · have q':H b=some (.own x):=by
       rcases he with z | z
       · exact absurd (hbe.trans z) hb
       · rw [hbe];exact z
     rw [q] at q';cases q';obtain ⟨v,hv⟩:=heo;exact ⟨v,by rw [hbe];exact hv⟩
   · refine (ok b u q).stay (fun c v hc r=>k c v ?_ r) (fun c r=>by rw [Zag (nown c b r)];exact r) fun c xs r=>by rw [Zag (ntup c xs r)];exact r
     rcases hc with rfl | hc
     · exact hbe
     · rintro rfl
       rcases he with z | z
       · exact nown c b hc z
       · rw [hc] at z;cases z;exact hb rfl
end
structure Un (fs ex:List Addr)(H H':Hp)(h h':Heap):Prop where
 keep:∀ b o,h.get? b=some o→H b=none→b∉fs→b∉ex→h'.get? b=some o
 slot:∀ b o,h.get? b=some o→H b=none→b∈fs→b∉ex→∃ sl,h'.get? b=some { o with slots:=sl }
 free:∀ b o,h.get? b=some o→H b=none→b∉ex→H' b=none
 there:∀ b o,h.get? b=some o→b∉ex→∃ o',h'.get? b=some o'
 tups:∀ b xs,H b=some (.tup xs)→H' b=some (.tup xs)
 frzs:∀ b o u,H b=some (.frz o u)→H' b=some (.frz o u)
 tbls:∀ b ps,H b=some (.tbl ps)→∃ more,H' b=some (.tbl (ps++more))
section
variable {fs fs' ex ex':List Addr}{H H1 H2:Hp}{h h1 h2 h':Heap}{a x e:Addr}{o:HO}
theorem Un.any (u:Un fs ex H H1 h h1){b:Addr}{ob:Obj}(q:h.get? b=some ob)(n:H b=none)(hx:b∉ex):∃ sl,h1.get? b=some { ob with slots:=sl }:=by
 by_cases hb:b∈fs
 · exact u.slot b ob q n hb hx
 · exact ⟨ob.slots,u.keep b ob q n hb hx⟩
theorem Un.trans (a:Un fs ex H H1 h h1)(b:Un fs ex H1 H2 h1 h2):Un fs ex H H2 h h2 where
 keep:=fun c ob q n hc hx=>b.keep c ob (a.keep c ob q n hc hx) (a.free c ob q n hx) hc hx
 slot:=fun c ob q n hc hx=>by
   obtain ⟨sl,e1⟩:=a.slot c ob q n hc hx;obtain ⟨sl',e2⟩:=b.slot c _ e1 (a.free c ob q n hx) hc hx;exact ⟨sl',e2⟩
 free:=fun c ob q n hx=>by
   obtain ⟨o',e1⟩:=a.there c ob q hx;exact b.free c o' e1 (a.free c ob q n hx) hx
 there:=fun c ob q hx=>by
   obtain ⟨o',e1⟩:=a.there c ob q hx;exact b.there c o' e1 hx
 tups:=fun c xs q=>b.tups c xs (a.tups c xs q)
 frzs:=fun c ob xs q=>b.frzs c ob xs (a.frzs c ob xs q)
 tbls:=fun c ps q=>by
   obtain ⟨m1,e1⟩:=a.tbls c ps q;obtain ⟨m2,e2⟩:=b.tbls c _ e1;exact ⟨m1++m2,by rw [e2,Array.append_assoc]⟩
theorem Un.kept (k:∀ b u,h.get? b=some u→h'.get? b=some u):Un fs ex H H h h' :=
 ⟨fun b ob q _ _ _=>k b ob q,fun b ob q _ _ _=>⟨ob.slots,k b ob q⟩,fun _ _ _ n _=>n,fun b ob q _=>⟨ob,k b ob q⟩,fun _ _ q=>q,fun _ _ _ q=>q,fun _ ps q=>⟨#[],by rw [q];simp⟩⟩
theorem Un.refl:Un fs ex H H h h:=Un.kept fun _ _ q=>q
theorem Un.laid (k:∀ b u,h.get? b=some u→h'.get? b=some u)(hp:h.objs.size≤a)(hn:H a=none):Un fs ex H (upd H a o) h h' where
 keep:=fun b u q _ _ _=>k b u q
 slot:=fun b u q _ _ _=>⟨u.slots,k b u q⟩
 free:=fun b u q n _=>by rw [Zag (Nat.ne_of_lt (Nat.lt_of_lt_of_le (Heap.lt_size q) hp))];exact n
 there:=fun b u q _=>⟨u,k b u q⟩
 tups:=fun b xs q=>by rw [Zag (Zar q hn)];exact q
 frzs:=fun b u xs q=>by rw [Zag (Zar q hn)];exact q
 tbls:=fun b ps q=>⟨#[],by rw [Zag (Zar q hn),q];simp⟩
theorem Un.write (mu:Mut (H x))(he:e=x∨H e=some (.own x))(k:∀ b u,b≠e→h.get? b=some u→h'.get? b=some u)(heo:∃ u,h'.get? e=some u):Un fs ex H (upd H x o) h h':=by
 have hx:∀ b,H b=none→b≠x:=fun b n z=>by subst z;rw [n] at mu;exact mu
 have hb:∀ b,H b=none→b≠e:=fun b n z=>by
   subst z;rcases he with r | r
   · exact hx b n r
   · rw [n] at r;cases r
 have hm:∀ b u,H b=some u→¬ Mut (some u)→b≠x:=fun b u q nm z=>by subst z;rw [q] at mu;exact nm mu
 refine ⟨fun b u q n _ _=>k b u (hb b n) q,fun b u q n _ _=>⟨u.slots,k b u (hb b n) q⟩,fun b u q n _=>by rw [Zag (hx b n)];exact n,fun b u q _=>?_,
   fun b xs q=>by rw [Zag (hm b _ q fun z=>z)];exact q,fun b u xs q=>by rw [Zag (hm b _ q fun z=>z)];exact q,fun b ps q=>⟨#[],by rw [Zag (hm b _ q fun z=>z),q];simp⟩⟩
 by_cases hbe:b=e
 · subst hbe;exact heo
 · exact ⟨u,k b u hbe q⟩
end
def trk (h:Heap)(H:Hp):List Addr:=(List.range h.objs.size).filter fun a=>(H a).isSome
def hidT (h:Heap)(H:Hp):Heap:=PySem.W.hideAll h (trk h H)
theorem Zfg (h:Heap)(H:Hp):(hidT h H).objs.size=h.objs.size:=PySem.W.hideAll_size _ _
theorem Zho {h:Heap}{H:Hp}{b:Addr}{o:Obj}(e:h.get? b=some o)(n:H b=none):(hidT h H).get? b=some o :=
 PySem.W.hideAll_get _ e fun hm=>by
   have q:(H b).isSome=true:=(List.mem_filter.mp hm).2;rw [n] at q;simp at q
theorem Zjs {h:Heap}{H:Hp}{b:Addr}{o:Obj}(e:(hidT h H).get? b=some o):h.get? b=some o∧H b=none:=by
 have e':h.get? b=some o:=PySem.W.of_hideAll (trk h H) e;refine ⟨e',?_⟩;cases q:H b with
 | none=>rfl
 | some x =>
   have hm:b∈trk h H:=List.mem_filter.mpr ⟨List.mem_range.mpr (Heap.lt_size e'),by simp [q]⟩;have z:(hidT h H).get? b=none:=PySem.W.hideAll_none (trk h H) hm;rw [z] at e;cases e
def allNews (g h:Heap)(L:Addr):List (Addr × Obj):=(List.range h.objs.size).filterMap fun a=>if a=L∨(g.get? a).isSome=true then none else (h.get? a).map fun o=>(a,o)
def rest (g h:Heap)(L d:Addr):List (Addr × Obj):=(allNews g h L).filter fun p=>decide (p.1≠d)
end L2
namespace L2
open PySem PySem.Spec PyProof.Rows
structure Mod (K:PySem.W.Frag)(mg:Str→Option Value)(base:Heap):Prop where
 kin:K.In base
 glob:base.Ns mainGlobals mg
 blt:∃ mb,base.Ns builtinsNs mb∧∀ x:Str,x≠"__name__"→mb x=bootBuiltins x
 nolimit:base.NoLimit
structure Cx where
 prog:Program
 w:World
 K:PySem.W.Frag
 mg:Str→Option Value
 base:Heap
 A:Around
 N:List Str
 s₀:Shared
 H₀:Hp
 env:Env
 outer:List Env
 stack:List Env
 ex:List Addr
 fn:Str→Bool
 calm:Bool
 pn:List (Addr × Obj)
 xe:Value→Shared→Prop
def frs (l:List Env):List Addr:=l.filterMap (·.frame)
abbrev Cx.fs (X:Cx):List Addr:=frs X.outer
def Vis (sc:Scope)(x:Str):Prop:=sc.names.lookup x=some .local∨sc.names.lookup x=some .cell∨sc.names.lookup x=some .free
def Loc (sc:Scope)(x:Str):Prop:=sc.names.lookup x=some .local∨sc.names.lookup x=some .cell
def Look (env:Env)(h:Heap)(m:Str→Option Value)(x:Str)(u:Value):Prop :=
 (env.kindOf x=some .local∧m x=some u)∨((env.kindOf x=some .cell∨env.kindOf x=some .free)∧∃ c,env.cells.lookup x=some c∧h.IsCell c (some u))
structure Cx.Ok (X:Cx):Prop where
 mod:Mod X.K X.mg X.base
 kind:X.env.scope.kind=.function
 glob:X.env.globals=mainGlobals
 blt:X.env.builtins=builtinsNs
 above:X.s₀.heap.objs.size≤X.env.locals
 inj:∀ x y c,X.env.cells.lookup x=some c→X.env.cells.lookup y=some c→x=y
 has:∀ x,(X.env.kindOf x=some .cell∨X.env.kindOf x=some .free)→∃ c,X.env.cells.lookup x=some c
 cab:∀ x c,X.fn x=true→X.env.cells.lookup x=some c→X.s₀.heap.objs.size≤c
 hd:X.calm=true→X.A.handled=none
 frames:X.A.frames=some X.stack
 stk:X.stack=X.outer∨(X.stack=X.env::X.outer∧X.env.frame=some X.env.locals)
 exf:∀ b∈X.ex,b≠X.env.locals∧∀ x c,X.env.cells.lookup x=some c→c≠b
 bs:∀ b o,X.base.get? b=some o→X.s₀.heap.get? b=some o∧X.H₀ b=none
 bsz:X.base.objs.size≤X.s₀.heap.objs.size
 noex:∀ b o,X.base.get? b=some o→b∉X.ex
 exfs:∀ b∈X.ex,b∉X.fs
 funs:X.s₀.heap.FunFrames X.base X.outer
 frf:∀ b∈X.fs,X.H₀ b=none
structure Inv (X:Cx)(pins:List (Addr × Obj))(σ:List (Option V))(H:Hp)(s:Shared):Prop where
 ok:X.Ok
 os:s.os=X.s₀.os
 bare:AllBare s.gens
 base:Un X.fs X.ex X.H₀ H X.s₀.heap s.heap
 loc:∃ m,s.heap.Ns X.env.locals m∧∀ (i:Nat) (x:Str) (v:V),X.N[i]?=some x→σ[i]?=some (some v)→Vis X.env.scope x→∃ u,RelV v u∧Look X.env s.heap m x u
 cell:∀ x c,X.env.cells.lookup x=some c→∃ v,s.heap.IsCell c v
 free:H X.env.locals=none
 freeC:∀ x c,X.env.cells.lookup x=some c→H c=none
 pin:∀ p∈X.pn++pins,s.heap.get? p.1=some p.2∧H p.1=none∧p.1≠X.env.locals∧p.1∉X.fs∧∀ v,p.2.data≠.cell v
 hok:HOk X.prog X.w H s.heap
 len:σ.length=X.N.length
section
variable {X:Cx}{pins:List (Addr × Obj)}{σ:List (Option V)}{H H':Hp}{s:Shared}{h':Heap}
theorem Cx.Ok.nofr (ok:X.Ok){b:Addr}{o:Obj}(e:X.base.get? b=some o):b∉X.fs:=fun hb=>by
 have:=(ok.funs.mem hb).1;rw [e] at this;cases this
theorem Inv.bs (I:Inv X pins σ H s):∀ b o,X.base.get? b=some o→s.heap.get? b=some o∧H b=none:=fun b o e =>
 ⟨I.base.keep b o (I.ok.bs b o e).1 (I.ok.bs b o e).2 (I.ok.nofr e) (I.ok.noex b o e),I.base.free b o (I.ok.bs b o e).1 (I.ok.bs b o e).2 (I.ok.noex b o e)⟩
theorem Inv.bk (I:Inv X pins σ H s):∀ b o,X.base.get? b=some o→s.heap.get? b=some o:=fun b o e=>(I.bs b o e).1
theorem Inv.mod (I:Inv X pins σ H s):Mod X.K X.mg X.base:=I.ok.mod
theorem Inv.kIn (I:Inv X pins σ H s):X.K.In s.heap:=I.ok.mod.kin.keeps I.bk
theorem Inv.lt (I:Inv X pins σ H s):X.env.locals<s.heap.objs.size:=let ⟨_,hn,_⟩:=I.loc;hn.lt
theorem Inv.sz (I:Inv X pins σ H s):X.s₀.heap.objs.size≤s.heap.objs.size:=Nat.le_trans I.ok.above (Nat.le_of_lt I.lt)
theorem Inv.nofs (I:Inv X pins σ H s){a:Addr}(h:s.heap.objs.size≤a):a∉X.fs:=fun hb=>by
 obtain ⟨_,o,ho,_⟩:=I.ok.funs.mem hb;exact absurd (Nat.lt_of_lt_of_le (Heap.lt_size ho) (Nat.le_trans I.sz h)) (Nat.lt_irrefl _)
theorem Inv.cne (I:Inv X pins σ H s):∀ x c,X.env.cells.lookup x=some c→c≠X.env.locals:=fun x c e z=>by
 obtain ⟨v,o,ho,hd⟩:=I.cell x c e;obtain ⟨m,⟨o',es,ep,ho',hd',_⟩,_⟩:=I.loc;rw [z,ho'] at ho;cases ho;rw [hd'] at hd;cases hd
theorem Inv.funs (I:Inv X pins σ H s):s.heap.FunFrames X.base X.outer:=by
 have all:∀ (l:List Env),(∀ b∈frs l,b∈X.fs)→X.s₀.heap.FunFrames X.base l→s.heap.FunFrames X.base l:=by
   intro l;induction l with
   | nil=>intro _ _;trivial
   | cons env r ih =>
     intro hs hl;obtain ⟨hk,⟨L,o,hf,hn,ho,hd⟩,hr⟩:=hl;have hL:L∈X.fs:=hs L (by unfold frs;rw [List.filterMap_cons,hf];exact List.mem_cons_self);obtain ⟨sl,e⟩:=I.base.slot L o ho (I.ok.frf L hL) hL fun z=>I.ok.exfs L z hL
     exact ⟨hk,⟨L,_,hf,hn,e,hd⟩,ih (fun b hb=>hs b (by unfold frs;rw [List.filterMap_cons,hf];exact List.mem_cons_of_mem _ hb)) hr⟩
 exact all X.outer (fun _ hb=>hb) I.ok.funs
theorem Inv.stack (I:Inv X pins σ H s):s.heap.FunFrames X.base X.stack:=by
 rcases I.ok.stk with e | ⟨e,hf⟩
 · rw [e];exact I.funs
 · rw [e]
   obtain ⟨m,hn,_⟩:=I.loc;refine .cons (by rw [I.ok.kind];decide) hf hn ?_ I.funs;exact Heap.get?_none_of_le (Nat.le_trans I.ok.bsz I.ok.above)
theorem Inv.stkSub (I:Inv X pins σ H s):∀ b∈frs X.stack,b∈X.env.locals::X.fs:=fun b hb=>by
 rcases I.ok.stk with e | ⟨e,hf⟩
 · rw [e] at hb;exact List.mem_cons_of_mem _ hb
 · rw [e] at hb
   unfold frs at hb;rw [List.filterMap_cons,hf] at hb;exact hb
theorem Inv.stkFree (I:Inv X pins σ H s):∀ b∈frs X.stack,H b=none:=fun b hb=>by
 rcases List.mem_cons.mp (I.stkSub b hb) with e | hb
 · rw [e];exact I.free
 · obtain ⟨_,o,ho,_⟩:=I.ok.funs.mem hb
   exact I.base.free b o ho (I.ok.frf b hb) fun z=>I.ok.exfs b z hb
theorem Inv.step {g':Array GenState}{t':Nat}{d':Drawn}{ch:List Addr}(I:Inv X pins σ H s)
   (hch:∀ b∈ch,(b∈X.ex∨X.s₀.heap.objs.size≤b)∧b≠X.env.locals∧(∀ x c,X.env.cells.lookup x=some c→c≠b)∧∀ p∈X.pn++pins,p.1≠b)
   (keep:∀ b o,b≠X.env.locals→b∉X.fs→b∉ch→s.heap.get? b=some o→H b=none→h'.get? b=some o)
   (slot:∀ b o,b≠X.env.locals→b∈X.fs→b∉ch→s.heap.get? b=some o→H b=none→∃ sl,h'.get? b=some { o with slots:=sl }) (free:∀ b o,b∉ch→s.heap.get? b=some o→H b=none→H' b=none)
   (there:∀ b o,b∉ch→s.heap.get? b=some o→∃ o',h'.get? b=some o')
   (tups:∀ b xs,H b=some (.tup xs)→H' b=some (.tup xs)) (frzs:∀ b o u,H b=some (.frz o u)→H' b=some (.frz o u)) (tbls:∀ b ps,H b=some (.tbl ps)→∃ more,H' b=some (.tbl (ps++more)))
   (ns:∀ m,s.heap.Ns X.env.locals m→h'.Ns X.env.locals m) (hok:HOk X.prog X.w H' h') (hg:AllBare g') :
   Inv X pins σ H' { s with heap:=h',gens:=g',drawn:=d',toks:=t' }:=by
 have neL:∀ b o,X.s₀.heap.get? b=some o→b≠X.env.locals:=fun b o e=>Nat.ne_of_lt (Nat.lt_of_lt_of_le (Heap.lt_size e) I.ok.above)
 have neC:∀ b o,X.s₀.heap.get? b=some o→b∉X.ex→b∉ch:=fun b o e hx hb=>by
   rcases (hch b hb).1 with z | z
   · exact hx z
   · exact absurd (Nat.lt_of_lt_of_le (Heap.lt_size e) z) (Nat.lt_irrefl _)
 have cellK:∀ x c,X.env.cells.lookup x=some c→∀ v,s.heap.IsCell c v→h'.IsCell c v:=fun x c e v ⟨o,ho,hd⟩=>by
   have nch:c∉ch:=fun z=>(hch c z).2.2.1 x c e rfl
   by_cases hc:c∈X.fs
   · obtain ⟨sl,q⟩:=slot c o (I.cne x c e) hc nch ho (I.freeC x c e)
     exact ⟨_,q,hd⟩
   · exact ⟨o,keep c o (I.cne x c e) hc nch ho (I.freeC x c e),hd⟩
 refine ⟨I.ok,I.os,hg,⟨fun b o e n hb hx=>?_,fun b o e n hb hx=>?_,fun b o e n hx=>?_,fun b o e hx=>?_,fun b xs e=>tups b xs (I.base.tups b xs e),fun b o xs e=>frzs b o xs (I.base.frzs b o xs e),fun b ps e=>?_⟩,?_,fun x c e=>?_,?_,fun x c e=>?_,fun p hp=>?_,hok,I.len⟩
 · exact keep b o (neL b o e) hb (neC b o e hx) (I.base.keep b o e n hb hx) (I.base.free b o e n hx)
 · obtain ⟨sl,e1⟩:=I.base.slot b o e n hb hx
   obtain ⟨sl',e2⟩:=slot b _ (neL b o e) hb (neC b o e hx) e1 (I.base.free b o e n hx);exact ⟨sl',e2⟩
 · obtain ⟨o',e1⟩:=I.base.there b o e hx
   exact free b o' (neC b o e hx) e1 (I.base.free b o e n hx)
 · obtain ⟨o',e1⟩:=I.base.there b o e hx
   exact there b o' (neC b o e hx) e1
 · obtain ⟨m1,e1⟩:=I.base.tbls b ps e
   obtain ⟨m2,e2⟩:=tbls b _ e1;exact ⟨m1++m2,by rw [e2,Array.append_assoc]⟩
 · obtain ⟨m,hn,hl⟩:=I.loc
   refine ⟨m,ns m hn,fun i x v e1 e2 e3=>?_⟩;obtain ⟨u,r,l⟩:=hl i x v e1 e2 e3;refine ⟨u,r,?_⟩;rcases l with l | ⟨k,c,e,z⟩
   · exact .inl l
   · exact .inr ⟨k,c,e,cellK x c e _ z⟩
 · obtain ⟨v,z⟩:=I.cell x c e
   exact ⟨v,cellK x c e v z⟩
 · obtain ⟨m,⟨o,_,_,ho,_⟩,_⟩:=I.loc
   exact free _ o (fun z=>(hch _ z).2.1 rfl) ho I.free
 · obtain ⟨v,o,ho,hd⟩:=I.cell x c e
   exact free c o (fun z=>(hch c z).2.2.1 x c e rfl) ho (I.freeC x c e)
 · obtain ⟨e,n,ne,nf,d⟩:=I.pin p hp
   have nch:p.1∉ch:=fun z=>(hch p.1 z).2.2.2 p hp rfl
   exact ⟨keep p.1 p.2 ne nf nch e n,free p.1 p.2 nch e n,ne,nf,d⟩
theorem Inv.un {t':Nat}(I:Inv X pins σ H s)(u:Un X.fs [] H H' s.heap h')(hok:HOk X.prog X.w H' h'):Inv X pins σ H' { s with heap:=h',toks:=t' }:=by
 obtain ⟨m,⟨o,es,ep,ho,r⟩,_⟩:=id I.loc;obtain ⟨sl,hL⟩:=u.any ho I.free (by simp);exact I.step (g':=s.gens) (d':=s.drawn) (ch:=[]) (fun _ z=>nomatch z) (fun b o _ hb _ e n=>u.keep b o e n hb (by simp)) (fun b o _ hb _ e n=>u.slot b o e n hb (by simp)) (fun b o _ e n=>u.free b o e n (by simp)) (fun b o _ e=>u.there b o e (by simp)) u.tups u.frzs u.tbls (fun m' hm=>by
   obtain ⟨o',es',ep',ho',r'⟩:=hm;rw [ho] at ho';cases ho';exact ⟨_,es',ep',hL,r'⟩) hok I.bare
theorem Inv.call {g':Array GenState}{t':Nat}{d':Drawn}{ch:List Addr}(I:Inv X pins σ H s)(u:Un (frs X.stack) ch H H' s.heap h')(hok:HOk X.prog X.w H' h')(hg:AllBare g')
   (hch:∀ b∈ch,(b∈X.ex∨X.s₀.heap.objs.size≤b)∧b≠X.env.locals∧(∀ x c,X.env.cells.lookup x=some c→c≠b)∧∀ p∈X.pn++pins,p.1≠b) :
   Inv X pins σ H' { s with heap:=h',gens:=g',drawn:=d',toks:=t' }:=by
 obtain ⟨m,⟨o,es,ep,ho,r⟩,_⟩:=id I.loc;obtain ⟨sl,hL⟩:=u.any ho I.free fun z=>(hch _ z).2.1 rfl
 exact I.step (ch:=ch) hch (fun b o hL hb hc e n=>u.keep b o e n (fun z=>(List.mem_cons.mp (I.stkSub b z)).elim hL hb) hc) (fun b o _ _ hc e n=>u.any e n hc) (fun b o hc e n=>u.free b o e n hc) (fun b o hc e=>u.there b o e hc) u.tups u.frzs u.tbls (fun m' hm=>by
   obtain ⟨o',es',ep',ho',r'⟩:=hm;rw [ho] at ho';cases ho';exact ⟨_,es',ep',hL,r'⟩) hok hg
theorem Inv.turned {t':Nat}{it:Addr}(I:Inv X pins σ H s)(k:∀ b o,b≠it→s.heap.get? b=some o→h'.get? b=some o)(hn:H it=none)(hL:it≠X.env.locals)
   (h1:it∈X.ex∨X.s₀.heap.objs.size≤it) (h2:∀ x c,X.env.cells.lookup x=some c→c≠it) (h3:∀ p∈X.pn++pins,p.1≠it):Inv X pins σ H { s with heap:=h',toks:=t' }:=by
 have nit:∀ b u,H b=some u→b≠it:=fun b u e z=>by rw [z,hn] at e;cases e
 refine I.step (g':=s.gens) (d':=s.drawn) (ch:=[it]) (fun b hb=>?_) (fun b o _ _ hc e _=>k b o (fun z=>hc (by simp [z])) e) (fun b o _ _ hc e _=>⟨o.slots,k b o (fun z=>hc (by simp [z])) e⟩) (fun _ _ _ _ n=>n)
   (fun b o hc e=>⟨o,k b o (fun z=>hc (by simp [z])) e⟩) (fun _ _ e=>e) (fun _ _ _ e=>e) (fun b ps e=>⟨#[],by rw [e];simp⟩) (fun m hm=>?_) (fun b u e=>?_) I.bare
 · have e:b=it:=by simpa using hb
   subst e;exact ⟨h1,hL,h2,h3⟩
 · obtain ⟨o,es,ep,ho,r⟩:=hm
   exact ⟨o,es,ep,k _ o (Ne.symm hL) ho,r⟩
 · refine (I.hok b u e).stay (fun c v hc q=>k c v ?_ q) (fun _ q=>q) fun _ _ q=>q
   rcases hc with z | z
   · rw [z];exact nit b u e
   · exact nit c _ z
theorem Inv.tok (I:Inv X pins σ H s)(t:Nat):Inv X pins σ H { s with toks:=t }:=I.un (h':=s.heap) (t':=t) Un.refl I.hok
theorem Inv.kept {t':Nat}(I:Inv X pins σ H s)(k:∀ b u,s.heap.get? b=some u→h'.get? b=some u):Inv X pins σ H { s with heap:=h',toks:=t' }:=I.un (Un.kept k) (I.hok.kept k)
theorem Inv.laid {a:Addr}{o:HO}{t':Nat}(I:Inv X pins σ H s)(k:∀ b u,s.heap.get? b=some u→h'.get? b=some u)(hp:s.heap.objs.size≤a)(new:ObjOk X.prog X.w (upd H a o) h' a o) :
   Inv X pins σ (upd H a o) { s with heap:=h',toks:=t' }:=I.un (Un.laid k hp (I.hok.fresh hp)) (I.hok.laid k hp new)
theorem Inv.write {x e:Addr}{o:HO}{t':Nat}(I:Inv X pins σ H s)(mu:Mut (H x))(he:e=x∨H e=some (.own x))(k:∀ b u,b≠e→s.heap.get? b=some u→h'.get? b=some u)(heo:∃ u,h'.get? e=some u)
   (new:ObjOk X.prog X.w (upd H x o) h' x o):Inv X pins σ (upd H x o) { s with heap:=h',toks:=t' }:=I.un (Un.write mu he k heo) (I.hok.write mu he k heo new)
theorem Inv.weak {σ':List (Option V)}(I:Inv X pins σ H s)(hl:σ'.length=σ.length)(w:∀ (i:Nat) v,σ'[i]?=some (some v)→σ[i]?=some (some v)):Inv X pins σ' H s :=
 ⟨I.ok,I.os,I.bare,I.base,let ⟨m,hn,hl'⟩:=I.loc;⟨m,hn,fun i x v e1 e2 e3=>hl' i x v e1 (w i v e2) e3⟩,I.cell,I.free,I.freeC,I.pin,I.hok,hl.trans I.len⟩
theorem Inv.pins_of {pins':List (Addr × Obj)}(I:Inv X pins σ H s)(h:∀ p∈pins',s.heap.get? p.1=some p.2∧H p.1=none∧p.1≠X.env.locals∧p.1∉X.fs∧∀ v,p.2.data≠.cell v):Inv X pins' σ H s :=
 ⟨I.ok,I.os,I.bare,I.base,I.loc,I.cell,I.free,I.freeC,fun p hp=>(List.mem_append.mp hp).elim (fun z=>I.pin p (List.mem_append_left _ z)) (h p),I.hok,I.len⟩
theorem ZhL {N:List Str}(hN:N.Nodup){i j:Nat}{x:Str}(a:N[i]?=some x)(b:N[j]?=some x):i=j:=by obtain ⟨h1,e1⟩:=List.getElem?_eq_some_iff.mp a;obtain ⟨h2,e2⟩:=List.getElem?_eq_some_iff.mp b;exact (List.getElem_inj hN).mp (e1.trans e2.symm)
theorem ZjI {M:Model} {A:Around} {E:Value→Shared→Prop} {i:Nat} {x:Str} {v:V} {u:Value} {Q:Unit→Shared→Prop} (I:Inv X pins σ H s) (hN:X.N.Nodup) (hi:X.N[i]?=some x) (hx:Loc X.env.scope x) (r:RelV v u)
   (h:∀ s',Inv X pins (σ.set i (some v)) H s'→(∃ a,Heap.SameBut a s.heap s'.heap∧(a=X.env.locals∨X.env.cells.lookup x=some a))→Q () s') (hf:X.fn x=true∨X.env.scope.names.lookup x=some .local:=by first | exact .inl rfl | exact .inr rfl | assumption):wpAny M A (storeName X.env x u) Q E s:=by
 obtain ⟨m,hn,hl⟩:=id I.loc;have hcls:(X.env.scope.kind==.class||(X.env.scope.kind==.module&&X.env.locals != X.env.globals))=false:=by rw [I.ok.kind];rfl
 have hiσ:i<σ.length:=by rw [I.len];exact (List.getElem?_eq_some_iff.mp hi).1
 have cne:=I.cne;have tracked:∀ {a:Addr} {h':Heap},(∃ o,s.heap.get? a=some o∧H a=none)→Heap.SameBut a s.heap h'→HOk X.prog X.w H h':=fun {a h'} ha hs b ob e=>by
   obtain ⟨_,_,hfree⟩:=ha;refine (I.hok b ob e).stay (fun c w' hc q=>(hs.2 c ?_).trans q) (fun _ q=>q) fun _ _ q=>q
   rintro rfl;rcases hc with rfl | hc
   · rw [hfree] at e;cases e
   · rw [hfree] at hc;cases hc
 rcases hx with hk | hk
 · refine wpAny_storeName_local hk hn (fun h' hn' hs=>?_) hcls
   obtain ⟨oL,_,_,hoL,_⟩:=id hn;refine h _ ⟨I.ok,I.os,I.bare,⟨fun b o e n hb hx=>?_,fun b o e n hb hx=>?_,I.base.free,fun b o e hx=>?_,I.base.tups,I.base.frzs,I.base.tbls⟩,⟨_,hn',fun j y v' e1 e2 e3=>?_⟩,fun y c e=>?_,I.free,I.freeC,fun p hp=>?_,tracked ⟨oL,hoL,I.free⟩ hs,by simpa using I.len⟩ ⟨_,hs,.inl rfl⟩
   · exact (hs.2 b (Nat.ne_of_lt (Nat.lt_of_lt_of_le (Heap.lt_size e) I.ok.above))).trans (I.base.keep b o e n hb hx)
   · obtain ⟨sl,e1⟩:=I.base.slot b o e n hb hx
     exact ⟨sl,(hs.2 b (Nat.ne_of_lt (Nat.lt_of_lt_of_le (Heap.lt_size e) I.ok.above))).trans e1⟩
   · obtain ⟨o',e1⟩:=I.base.there b o e hx
     exact ⟨o',(hs.2 b (Nat.ne_of_lt (Nat.lt_of_lt_of_le (Heap.lt_size e) I.ok.above))).trans e1⟩
   · by_cases hj:j=i
     · subst hj
       rw [hi] at e1;cases e1;rw [List.getElem?_set_self hiσ] at e2;cases e2;exact ⟨u,r,.inl ⟨hk,by simp⟩⟩
     · rw [List.getElem?_set_ne (Ne.symm hj)] at e2
       obtain ⟨u',r',q⟩:=hl j y v' e1 e2 e3;refine ⟨u',r',?_⟩;rcases q with ⟨k,e⟩ | ⟨k,c,e,z⟩
       · refine .inl ⟨k,?_⟩
         have:y≠x:=fun e=>hj (ZhL hN e1 (e ▸ hi))
         simp [this,e]
       · exact .inr ⟨k,c,e,z.sameBut hs (cne y c e)⟩
   · obtain ⟨w',z⟩:=I.cell y c e
     exact ⟨w',z.sameBut hs (cne y c e)⟩
   · obtain ⟨e,n,ne,nf,d⟩:=I.pin p hp
     exact ⟨(hs.2 p.1 ne).trans e,n,ne,nf,d⟩
 · have hfn:X.fn x=true:=by
     rcases hf with z | z
     · exact z
     · rw [z] at hk;cases hk
   obtain ⟨c,hc⟩:=I.ok.has x (.inl hk);obtain ⟨w',z⟩:=I.cell x c hc;refine wpAny_storeName_cell I.ok.kind hk hc z (fun h' hc' hs=>?_);obtain ⟨oc,hoc,hocd⟩:=id z;refine h { s with heap:=h' } ⟨I.ok,I.os,I.bare,⟨fun b o e n hb hx=>?_,fun b o e n hb hx=>?_,I.base.free,fun b o e hx=>?_,I.base.tups,I.base.frzs,I.base.tbls⟩,⟨m,hn.sameBut hs (Ne.symm (cne x c hc)),fun j y v' e1 e2 e3=>?_⟩,fun y c' e=>?_,I.free,I.freeC,fun p hp=>?_,tracked ⟨oc,hoc,I.freeC x c hc⟩ hs,by simpa using I.len⟩ ⟨c,hs,.inr hc⟩
   · exact (hs.2 b (Nat.ne_of_lt (Nat.lt_of_lt_of_le (Heap.lt_size e) (I.ok.cab x c hfn hc)))).trans (I.base.keep b o e n hb hx)
   · obtain ⟨sl,e1⟩:=I.base.slot b o e n hb hx
     exact ⟨sl,(hs.2 b (Nat.ne_of_lt (Nat.lt_of_lt_of_le (Heap.lt_size e) (I.ok.cab x c hfn hc)))).trans e1⟩
   · obtain ⟨o',e1⟩:=I.base.there b o e hx
     exact ⟨o',(hs.2 b (Nat.ne_of_lt (Nat.lt_of_lt_of_le (Heap.lt_size e) (I.ok.cab x c hfn hc)))).trans e1⟩
   · by_cases hj:j=i
     · subst hj
       rw [hi] at e1;cases e1;rw [List.getElem?_set_self hiσ] at e2;cases e2;exact ⟨u,r,.inr ⟨.inl hk,c,hc,hc'⟩⟩
     · rw [List.getElem?_set_ne (Ne.symm hj)] at e2
       obtain ⟨u',r',q⟩:=hl j y v' e1 e2 e3;refine ⟨u',r',?_⟩;rcases q with q | ⟨k,c',e,z'⟩
       · exact .inl q
       · refine .inr ⟨k,c',e,z'.sameBut hs ?_⟩
         rintro rfl;exact hj (ZhL hN e1 (I.ok.inj _ _ _ e hc ▸ hi))
   · by_cases hcc:c'=c
     · subst hcc;exact ⟨_,hc'⟩
     · obtain ⟨w2,z2⟩:=I.cell y c' e
       exact ⟨w2,z2.sameBut hs hcc⟩
   · obtain ⟨e,n,ne,nf,d⟩:=I.pin p hp
     refine ⟨(hs.2 p.1 ?_).trans e,n,ne,nf,d⟩;intro q;rw [q,hoc] at e;have q':oc=p.2:=Option.some.inj e;exact d w' (by rw [← q'];exact hocd)
theorem Zhz {M:Model}{A:Around}{E:Value→Shared→Prop}{i:Nat}{x:Str}{v:V}{u:Value}{Q:Unit→Shared→Prop}(I:Inv X pins σ H s)(hN:X.N.Nodup)(hi:X.N[i]?=some x)(hx:Loc X.env.scope x)(r:RelV v u)
   (h:∀ s',Inv X pins (σ.set i (some v)) H s'→Q () s') (hf:X.fn x=true∨X.env.scope.names.lookup x=some .local:=by first | exact .inl rfl | exact .inr rfl | assumption):wpAny M A (storeName X.env x u) Q E s :=
 ZjI I hN hi hx r (fun s' I' _=>h s' I') hf
theorem Inv.call' {s':Shared}{ch:List Addr}(I:Inv X pins σ H s)(ho:s'.os=s.os)(u:Un (frs X.stack) ch H H' s.heap s'.heap)(hok:HOk X.prog X.w H' s'.heap)(hg:AllBare s'.gens)
   (hch:∀ b∈ch,(b∈X.ex∨X.s₀.heap.objs.size≤b)∧b≠X.env.locals∧(∀ x c,X.env.cells.lookup x=some c→c≠b)∧∀ p∈X.pn++pins,p.1≠b):Inv X pins σ H' s':=by
 obtain ⟨h',g',d',t',o'⟩:=s';have e:o'=s.os:=ho;subst e;exact I.call (g':=g') (t':=t') (d':=d') u hok hg hch
end
abbrev XK:=Value→Option Addr→Hp→Prop
abbrev St:=List (Option V)
abbrev VK:=V→Hp→Prop
abbrev TE:=St→Hp→VK→Prop
abbrev TT:=St→Hp→(Bool→Hp→Prop)→Prop
abbrev TA:=St→Hp→(List V→Hp→Prop)→Prop
structure Ends where
 nx:St→Hp→Prop
 rt:VK
 bk:St→Hp→Prop:=fun _ _=>False
 ct:St→Hp→Prop:=fun _ _=>False
abbrev TS:=Ends→St→Hp→Prop
def EP (X:Cx)(pins:List (Addr × Obj))(σ:St)(Q:VK)(u:Value)(s':Shared):Prop:=∃ v H',Inv X pins σ H' s'∧RelV v u∧Q v H'
def TP (X:Cx)(pins:List (Addr × Obj))(σ:St)(Q:Bool→Hp→Prop)(b:Bool)(s':Shared):Prop:=∃ H',Inv X pins σ H' s'∧Q b H'
def AP (X:Cx)(pins:List (Addr × Obj))(σ:St)(Q:List V→Hp→Prop)(us:List Value)(s':Shared):Prop:=∃ vs H',Inv X pins σ H' s'∧Vals vs us∧Q vs H'
def SP (X:Cx)(pins:List (Addr × Obj))(D:Ends)(f:Flow)(s':Shared):Prop :=
 match f with
 | .next=>∃ σ' H',Inv X pins σ' H' s'∧D.nx σ' H'
 | .brk=>∃ σ' H',Inv X pins σ' H' s'∧D.bk σ' H'
 | .cont=>∃ σ' H',Inv X pins σ' H' s'∧D.ct σ' H'
 | .ret u=>∃ v σ' H',Inv X pins σ' H' s'∧RelV v u∧D.rt v H'
def PE (X:Cx)(e:Expr)(t:TE):Prop :=
 ∀ (pins:List (Addr × Obj)) (s:Shared) (σ:St) (H:Hp) (Q:VK),Inv X pins σ H s→t σ H Q→wpAny (model X.prog X.w) X.A (eval e X.env) (EP X pins σ Q) X.xe s
def PT (X:Cx)(e:Expr)(t:TT):Prop :=
 ∀ (pins:List (Addr × Obj)) (s:Shared) (σ:St) (H:Hp) (Q:Bool→Hp→Prop),Inv X pins σ H s→t σ H Q→wpAny (model X.prog X.w) X.A (isTrue e X.env (eval e X.env)) (TP X pins σ Q) X.xe s
def PW (X:Cx)(e:Expr)(t:TT):Prop :=
 ∀ (whole:Sem Value) (pins:List (Addr × Obj)) (s:Shared) (σ:St) (H:Hp) (Q:Bool→Hp→Prop),Inv X pins σ H s→t σ H Q→wpAny (model X.prog X.w) X.A (isTrue e X.env whole) (TP X pins σ Q) X.xe s
theorem PW.pt {X:Cx}{e:Expr}{t:TT}(h:PW X e t):PT X e t:=h _
def PA (X:Cx)(es:List Expr)(t:TA):Prop :=
 ∀ (pos:Pos) (pins:List (Addr × Obj)) (s:Shared) (σ:St) (H:Hp) (Q:List V→Hp→Prop),Inv X pins σ H s→t σ H Q→wpAny (model X.prog X.w) X.A (spliced (backTo pos (starEach es X.env))) (AP X pins σ Q) X.xe s
def PS (X:Cx)(st:Stmt)(t:TS):Prop :=
 ∀ (pins:List (Addr × Obj)) (s:Shared) (σ:St) (H:Hp) (D:Ends),Inv X pins σ H s→t D σ H→wpAny (model X.prog X.w) X.A (exec st X.env) (SP X pins D) X.xe s
def PSs (X:Cx)(st:List Stmt)(t:TS):Prop :=
 ∀ (pins:List (Addr × Obj)) (s:Shared) (σ:St) (H:Hp) (D:Ends),Inv X pins σ H s→t D σ H→wpAny (model X.prog X.w) X.A (execs st X.env) (SP X pins D) X.xe s
theorem thn {α:Type}{t:Sem α}{Q Q':α→Shared→Prop}{M:Model}{A:Around}{E:Value→Shared→Prop}{s:Shared}(h:wpAny M A t Q E s)(hQ:∀ a s,Q a s→Q' a s):wpAny M A t Q' E s:=wpAny_mono h hQ fun _ _ x=>x
end L2
namespace L2
open PySem PySem.Spec PyProof.Rows
section
variable {X:Cx}
def tVar (i:Nat):TE:=fun σ H Q=>∃ v,σ[i]?=some (some v)∧Q v H
def tC (v:V):TE:=fun _ H Q=>Q v H
theorem pe_var {i:Nat}{x:Str}{pos:Pos}(hN:X.N[i]?=some x)(hv:Vis X.env.scope x)(hd:(x==("__debug__":Str))=false:=by decide)(hcd:(x==("__classdict__":Str))=false:=by decide):PE X (.Name x pos) (tVar i):=by
 intro pins s σ H Q I h;obtain ⟨v,e,h⟩:=h;obtain ⟨m,hn,hl⟩:=I.loc;obtain ⟨u,r,l⟩:=hl i x v hN e hv;have fin:EP X pins σ Q u s:=⟨v,H,I,r,h⟩
 rcases l with ⟨hk,hm⟩ | ⟨hk,c,hc,hcell⟩
 · exact wpAny_Name (wpAny_loadName_local I.ok.kind hk hn hm fin) hd
 · rcases hk with hk | hk
   · exact wpAny_Name (wpAny_loadName_cell I.ok.kind hk hc hcell fin) hd
   · exact wpAny_Name (wpAny_loadName_free I.ok.kind hk hc hcell fin hcd) hd
theorem Zaf {i j pos}:PE X (.Constant (.int i) j pos) (tC (.int i)):=fun _ _ _ H _ I h=>wpAny_Constant_int ⟨.int i,H,I.tok _,⟨_,rfl⟩,h⟩
theorem ZbM {b j pos}:PE X (.Constant (.bool b) j pos) (tC (.bl b)):=fun _ _ _ H _ I h=>Constant_bool ⟨.bl b,H,I,rfl,h⟩
theorem Zc5 {j pos}:PE X (.Constant .none j pos) (tC .non):=fun _ _ _ H _ I h=>Constant_none ⟨.non,H,I,rfl,h⟩
theorem Ziv {x j pos}:PE X (.Constant (.str x) j pos) (tC (.str x)):=fun _ _ _ H _ I h=>Calls.Constant_str ⟨.str x,H,I.tok _,⟨_,rfl⟩,h⟩
def Gl (X:Cx)(x:Str):Prop:=X.env.kindOf x=some .globalImplicit
theorem Zdw {E:Value→Shared→Prop}{pins:List (Addr × Obj)}{s:Shared}{σ:St}{H:Hp}{x:Str}{u:Value}{pos:Pos}{Q:Value→Shared→Prop}(I:Inv X pins σ H s)(hg:Gl X x)(hm:X.mg x=some u)(h:Q u s)
   (hd:(x==("__debug__":Str))=false:=by decide):wpAny (model X.prog X.w) X.A (eval (.Name x pos) X.env) Q E s :=
 Calls.Name_function_global I.ok.kind hg (Calls.loadGlobal_global (by rw [I.ok.glob];exact I.mod.glob.keeps I.bk) hm h) hd
theorem ZbR {E:Value→Shared→Prop}{pins:List (Addr × Obj)}{s:Shared}{σ:St}{H:Hp}{x:Str}{u:Value}{pos:Pos}{Q:Value→Shared→Prop}(I:Inv X pins σ H s)(hg:Gl X x)(hm:X.mg x=none)(hv:bootBuiltins x=some u)(h:Q u s)
   (hn:x≠"__name__":=by decide) (hd:(x==("__debug__":Str))=false:=by decide):wpAny (model X.prog X.w) X.A (eval (.Name x pos) X.env) Q E s:=by
 obtain ⟨mb,h1,h2⟩:=I.mod.blt;exact Calls.Name_function_global I.ok.kind hg (Calls.loadGlobal_builtin (by rw [I.ok.glob];exact I.mod.glob.keeps I.bk) hm (by rw [I.ok.blt];exact h1.keeps I.bk) ((h2 x hn).trans hv) h) hd
theorem ZaY {x:Str}{v:V}{u:Value}{pos:Pos}(hg:Gl X x)(hm:X.mg x=some u)(r:RelV v u)(hd:(x==("__debug__":Str))=false:=by decide):PE X (.Name x pos) (tC v) :=
 fun _ _ _ H _ I h=>Zdw I hg hm ⟨v,H,I,r,h⟩ hd
theorem Zgo {x:Str}{v:V}{u:Value}{pos:Pos}(hg:Gl X x)(hm:X.mg x=none)(hv:bootBuiltins x=some u)(r:RelV v u)(hn:x≠"__name__":=by decide)(hd:(x==("__debug__":Str))=false:=by decide):PE X (.Name x pos) (tC v) :=
 fun _ _ _ H _ I h=>ZbR I hg hm hv ⟨v,H,I,r,h⟩ hn hd
variable {a b:Expr}{ta tb:TE}{pos:Pos}
def tB (t:TE):TT:=fun σ H Q=>t σ H fun x H1=>∃ c,x=.bl c∧Q c H1
theorem ZaO {e:Expr}{t:TE}(h:PE X e t)(he:∀ whole,isTrue e X.env whole=(do let v ← whole;standAt e.pos;holding [v] (truthy v)):=by intro _;rfl):PT X e (tB t):=by intro pins s σ H Q I hw;refine isTrue_plain (thn (h pins s σ H _ I hw) fun v s1 ⟨x,H1,I1,r1,q1⟩=>?_) (he _);obtain ⟨d,rfl,q⟩:=q1;cases r1;exact wpAny_truthy_bool ⟨H1,I1,q⟩
variable {tA tB':TT}{rest:List Expr}
def tAnd (t u:TT):TT:=fun σ H Q=>t σ H fun c H1=>if c=true then u σ H1 Q else Q false H1
def tOr (t u:TT):TT:=fun σ H Q=>t σ H fun c H1=>if c=true then Q true H1 else u σ H1 Q
def tNot (t:TT):TT:=fun σ H Q=>t σ H fun c H1=>Q (!c) H1
theorem pw_and1 (ha:PT X a tA):PW X (.BoolOp .And [a] pos) tA:=by
 intro wh pins s σ H Q I h;refine isTrue_and (thn (ha pins s σ H Q I h) fun c s1 e=>?_);cases c with
 | true=>exact isTrue_and_nil e
 | false=>exact e
theorem ZcO (ha:PT X a tA):PW X (.BoolOp .Or [a] pos) tA:=by
 intro wh pins s σ H Q I h;refine isTrue_or (thn (ha pins s σ H Q I h) fun c s1 e=>?_);cases c with
 | false=>exact isTrue_or_nil e
 | true=>exact e
theorem pw_and (ha:PT X a tA)(hb:PW X (.BoolOp .And (b::rest) pos) tB'):PW X (.BoolOp .And (a::b::rest) pos) (tAnd tA tB'):=by
 intro wh pins s σ H Q I h;refine isTrue_and (thn (ha pins s σ H _ I h) fun c s1 ⟨H1,I1,q1⟩=>?_);cases c with
 | true=>exact hb wh pins s1 σ H1 Q I1 q1
 | false=>exact ⟨H1,I1,q1⟩
theorem ZdX (ha:PT X a tA)(hb:PW X (.BoolOp .Or (b::rest) pos) tB'):PW X (.BoolOp .Or (a::b::rest) pos) (tOr tA tB'):=by
 intro wh pins s σ H Q I h;refine isTrue_or (thn (ha pins s σ H _ I h) fun c s1 ⟨H1,I1,q1⟩=>?_);cases c with
 | true=>exact ⟨H1,I1,q1⟩
 | false=>exact hb wh pins s1 σ H1 Q I1 q1
theorem ZaZ (ha:PT X a tA):PT X (.UnaryOp .Not a pos) (tNot tA):=by intro pins s σ H Q I h;exact isTrue_not (ha pins s σ H (fun c H1=>Q (!c) H1) I h)
def tAndV (ta tb:TE):TE:=fun σ H Q=>ta σ H fun x H1=>∃ c,x=.bl c∧if c=true then tb σ H1 Q else Q (.bl false) H1
def tNotV (ta:TE):TE:=fun σ H Q=>ta σ H fun x H1=>∃ c,x=.bl c∧Q (.bl (!c)) H1
theorem Zew {op}{t:TE}(h:PE X a t):PE X (.BoolOp op [a] pos) t:=fun pins s σ H Q I hw=>BoolOp_one (h pins s σ H Q I hw)
theorem ZdF (ha:PE X a ta)(hb:PE X (.BoolOp .And (b::rest) pos) tb):PE X (.BoolOp .And (a::b::rest) pos) (tAndV ta tb):=by
 intro pins s σ H Q I h;refine BoolOp_and (thn (ha pins s σ H _ I h) fun v s1 ⟨x,H1,I1,r1,q1⟩=>?_);obtain ⟨c,rfl,q1⟩:=q1;cases r1;refine wpAny_truthy_bool ?_;cases c with
 | true=>exact hb pins s1 σ H1 Q I1 q1
 | false=>exact ⟨.bl false,H1,I1,rfl,q1⟩
theorem pe_not (ha:PE X a ta):PE X (.UnaryOp .Not a pos) (tNotV ta):=by intro pins s σ H Q I h;refine UnaryOp_ (thn (ha pins s σ H _ I h) fun v s1 ⟨x,H1,I1,r1,q1⟩=>?_);obtain ⟨c,rfl,q1⟩:=q1;cases r1;exact not_of (wpAny_truthy_bool ⟨.bl (!c),H1,I1,rfl,q1⟩)
def tIf (t:TT)(ta tb:TE):TE:=fun σ H Q=>t σ H fun c H1=>if c=true then ta σ H1 Q else tb σ H1 Q
theorem ZbY {c:Expr}(hc:PT X c tA)(ha:PE X a ta)(hb:PE X b tb):PE X (.IfExp c a b pos) (tIf tA ta tb):=by
 intro pins s σ H Q I h;refine wpAny_IfExp (thn (hc pins s σ H _ I h) fun d s1 ⟨H1,I1,q1⟩=>?_);cases d with
 | true=>exact ha pins s1 σ H1 Q I1 q1
 | false=>exact hb pins s1 σ H1 Q I1 q1
end
end L2
namespace L2
open PySem PySem.Spec PyProof.Rows
def SqL (K:PySem.W.Frag) (H:Hp) (a:Addr) (xs:List V):Prop :=
 Rd H a (.lst xs) ∨
   ∃ (o:Obj) (its:Array Value) (n:Nat),K.lookup a=some o∧o.cls=.type "list"∧o.dict=none∧o.data=.seq its n∧its.size≤sizeLine∧Vals xs its.toList
def SqT (K:PySem.W.Frag) (H:Hp) (a:Addr) (xs:List V):Prop :=
 Rd H a (.tup xs) ∨
   ∃ (o:Obj) (its:Array Value) (n:Nat),K.lookup a=some o∧o.cls=.type "tuple"∧o.data=.seq its n∧its.size≤sizeLine∧Vals xs its.toList
def absV:Value→Option V
 | .none=>some .non
 | .bool b=>some (.bl b)
 | .int i _=>some (.int i)
 | .str x _=>some (.str x)
 | .bytes b _=>some (.byt b)
 | .float b _=>some (.flt b)
 | .ref a=>some (.ref a)
 | .type n=>some (.ty n)
 | _=>none
theorem RelV.abs {x:V}{u:Value}(r:RelV x u):absV u=some x:=by
 cases x with
 | non=>cases r;rfl
 | bl _=>cases r;rfl
 | int _=>obtain ⟨t,rfl⟩:=r;rfl
 | str _=>obtain ⟨t,rfl⟩:=r;rfl
 | byt _=>obtain ⟨t,rfl⟩:=r;rfl
 | flt _=>obtain ⟨t,rfl⟩:=r;rfl
 | ref _=>cases r;rfl
 | ty _=>cases r;rfl
theorem RelV.inj {x y:V}{u:Value}(r:RelV x u)(q:RelV y u):x=y:=Option.some.inj (r.abs.symm.trans q.abs)
theorem Vals.inj:∀ {xs ys:List V} {us:List Value},Vals xs us→Vals ys us→xs=ys
 | _,_,_,.nil,.nil=>rfl
 | _,_,_,.cons r t,.cons r' t'=>by rw [r.inj r',Vals.inj t t']
section
variable {X:Cx}{pins:List (Addr × Obj)}{σ:St}{H:Hp}{s:Shared}{a:Addr}{xs ys:List V}
theorem SqL.of {K:PySem.W.Frag}(h:H a=some (.lst xs)):SqL K H a xs:=.inl (.inl h)
theorem SqT.of {K:PySem.W.Frag}(h:H a=some (.tup xs)):SqT K H a xs:=.inl (.inl h)
theorem Inv.list (I:Inv X pins σ H s)(h:SqL X.K H a xs):∃ its:List Value,Vals xs its∧PlainL s.heap a its.toArray∧xs.length≤sizeLine:=by
 rcases h with h | ⟨o,its,n,hk,hc,hd,hs,hz,r⟩
 · obtain ⟨z,its,n,r,e⟩:=h.ok I.hok
   exact ⟨its,r,⟨_,n,e,rfl,rfl,rfl⟩,z⟩
 · refine ⟨its.toList,r,⟨o,n,I.kIn a o hk,hc,hd,by simpa using hs⟩,?_⟩
   have e:=r.length;simp only [Array.length_toList] at e;omega
theorem Inv.tuple (I:Inv X pins σ H s)(h:SqT X.K H a xs):∃ its:List Value,Vals xs its∧IsTup s.heap a its.toArray∧xs.length≤sizeLine:=by
 rcases h with h | ⟨o,its,n,hk,hc,hs,hz,r⟩
 · obtain ⟨z,its,r,p⟩:=h.ok I.hok
   exact ⟨its,r,p,z⟩
 · refine ⟨its.toList,r,⟨o,I.kIn a o hk,hc,n,by simpa using hs⟩,?_⟩
   have e:=r.length;simp only [Array.length_toList] at e;omega
theorem Inv.list_inj (I:Inv X pins σ H s)(h:SqL X.K H a xs)(h':SqL X.K H a ys):xs=ys:=by
 obtain ⟨its,r,⟨o,n,e,_,_,d⟩,_⟩:=I.list h;obtain ⟨its',r',⟨o',n',e',_,_,d'⟩,_⟩:=I.list h';rw [e] at e';cases e';rw [d] at d';injection d' with d1 _
 have:its=its':=by simpa using congrArg Array.toList d1
 subst this;exact r.inj r'
end
abbrev Cx.wish (X:Cx)(E:Value→Shared→Prop):Cx:={ X with xe:=E }
abbrev Cx.nox (X:Cx):Cx:=X.wish fun _ _=>False
theorem Cx.Ok.wish {X:Cx}(ok:X.Ok)(E:Value→Shared→Prop):(X.wish E).Ok :=
 ⟨ok.mod,ok.kind,ok.glob,ok.blt,ok.above,ok.inj,ok.has,ok.cab,ok.hd,ok.frames,ok.stk,ok.exf,ok.bs,ok.bsz,ok.noex,ok.exfs,ok.funs,ok.frf⟩
theorem Cx.Ok.unwish {X:Cx}{E:Value→Shared→Prop}(ok:(X.wish E).Ok):X.Ok :=
 ⟨ok.mod,ok.kind,ok.glob,ok.blt,ok.above,ok.inj,ok.has,ok.cab,ok.hd,ok.frames,ok.stk,ok.exf,ok.bs,ok.bsz,ok.noex,ok.exfs,ok.funs,ok.frf⟩
section
variable {X:Cx}{pins:List (Addr × Obj)}{σ:St}{H:Hp}{s:Shared}{E:Value→Shared→Prop}
theorem Inv.wish (I:Inv X pins σ H s)(E:Value→Shared→Prop):Inv (X.wish E) pins σ H s:=⟨I.ok.wish E,I.os,I.bare,I.base,I.loc,I.cell,I.free,I.freeC,I.pin,I.hok,I.len⟩
theorem Inv.unwish (I:Inv (X.wish E) pins σ H s):Inv X pins σ H s:=⟨I.ok.unwish,I.os,I.bare,I.base,I.loc,I.cell,I.free,I.freeC,I.pin,I.hok,I.len⟩
theorem SP.unwish {D:Ends}{f:Flow}{s':Shared}(h:SP (X.wish E) pins D f s'):SP X pins D f s':=by
 cases f with
 | next=>obtain ⟨σ',H',I,q⟩:=h;exact ⟨σ',H',I.unwish,q⟩
 | brk=>obtain ⟨σ',H',I,q⟩:=h;exact ⟨σ',H',I.unwish,q⟩
 | cont=>obtain ⟨σ',H',I,q⟩:=h;exact ⟨σ',H',I.unwish,q⟩
 | ret u=>obtain ⟨v,σ',H',I,r,q⟩:=h;exact ⟨v,σ',H',I.unwish,r,q⟩
theorem PSs.nox {st:List Stmt}{t:TS}(h:PSs X.nox st t):PSs X st t:=fun pins s σ H D I hw =>
 wpAny_mono (h pins s σ H D (I.wish _) hw) (fun _ _ q=>q.unwish) fun _ _ z=>False.elim z
end
section
variable {X:Cx}{st:Stmt}{rest:List Stmt}{t u:TS}{e:Expr}{te:TE}{pos:Pos}
def tNext:TS:=fun D σ H=>D.nx σ H
def tSeq (t u:TS):TS:=fun D σ H=>t { D with nx:=u D } σ H
theorem Zay:PSs X [] tNext:=fun _ _ σ H _ I h=>wpAny_execs_nil ⟨σ,H,I,h⟩
theorem Zaj (h1:PS X st t)(h2:PSs X rest u):PSs X (st::rest) (tSeq t u):=by
 intro pins s σ H D I h;refine wpAny_execs_cons (thn (h1 pins s σ H { D with nx:=u D } I h) fun f s1 q=>?_);cases f with
 | next =>
   obtain ⟨σ',H',I',q⟩:=q;exact h2 pins s1 σ' H' D I' q
 | ret v=>exact q
 | brk=>exact q
 | cont=>exact q
theorem Zae (h1:PS X st t):PSs X [st] t:=by
 intro pins s σ H D I h;refine wpAny_execs_cons (thn (h1 pins s σ H D I h) fun f s1 q=>?_);cases f with
 | next=>exact wpAny_execs_nil q
 | ret v=>exact q
 | brk=>exact q
 | cont=>exact q
theorem Inv.quiet {pins:List (Addr × Obj)}{σ:St}{H:Hp}{s:Shared}(I:Inv X pins σ H s):interactive X.env=false:=by simp [interactive,I.ok.kind]
def tDrop (te:TE):TS:=fun D σ H=>te σ H fun _ H1=>D.nx σ H1
theorem Zdf (he:PE X e te)(hs:swapsWith e none pos.line X.env=pure false:=by rfl):PS X (.Expr e pos) (tDrop te):=by intro pins s σ H D I h;exact wpAny_Expr_any (thn (he pins s σ H _ I h) fun v s1 ⟨x,H1,I1,r1,q1⟩=>⟨σ,H1,I1,q1⟩) I.quiet hs
def tRet (te:TE):TS:=fun D σ H=>te σ H D.rt
theorem Zam (he:PE X e te):PS X (.Return (some e) pos) (tRet te):=by intro pins s σ H D I h;exact wpAny_Return_some (thn (he pins s σ H _ I h) fun v s1 ⟨x,H1,I1,r1,q1⟩=>⟨x,σ,H1,I1,r1,q1⟩)
def tIfS (c:TT)(t u:TS):TS:=fun D σ H=>c σ H fun b H1=>if b=true then t D σ H1 else u D σ H1
theorem ZaK {c:Expr}{a b:List Stmt}{tc:TT}(hc:PT X c tc)(ha:PSs X a t)(hb:PSs X b u):PS X (.If c a b pos) (tIfS tc t u):=by
 intro pins s σ H D I h;refine wpAny_If (thn (hc pins s σ H _ I h) fun d s1 ⟨H1,I1,q1⟩=>?_);cases d with
 | true=>exact ha pins s1 σ H1 D I1 q1
 | false=>exact hb pins s1 σ H1 D I1 q1
def tNever:TS:=fun _ _ _=>False
theorem ps_never:PS X st tNever:=fun _ _ _ _ _ _ h=>h.elim
end
abbrev TG:=V→St→Hp→(St→Hp→Prop)→Prop
abbrev TGs:=List V→St→Hp→(St→Hp→Prop)→Prop
def PG (X:Cx) (target:Expr) (t:TG):Prop :=
 ∀ (pins:List (Addr × Obj)) (s:Shared) (σ:St) (H:Hp) (v:V) (u:Value) (Q:St→Hp→Prop),Inv X pins σ H s→RelV v u→t v σ H Q →
   wpAny (model X.prog X.w) X.A (assign target X.env u) (fun _ s'=>∃ σ' H',Inv X pins σ' H' s'∧Q σ' H') X.xe s
def PGs (X:Cx) (ts:List Expr) (t:TGs):Prop :=
 ∀ (pins:List (Addr × Obj)) (s:Shared) (σ:St) (H:Hp) (vs:List V) (us:List Value) (Q:St→Hp→Prop),Inv X pins σ H s→Vals vs us→t vs σ H Q →
   wpAny (model X.prog X.w) X.A (assignInOrder ((assignEach ts X.env).map (·.2)) us) (fun _ s'=>∃ σ' H',Inv X pins σ' H' s'∧Q σ' H') X.xe s
section
variable {X:Cx}{pos:Pos}
def gName (i:Nat):TG:=fun v σ H Q=>Q (σ.set i (some v)) H
theorem Zas {i:Nat}{x:Str}(hN:X.N.Nodup)(hi:X.N[i]?=some x)(hx:Loc X.env.scope x)(hf:X.fn x=true∨X.env.scope.names.lookup x=some .local:=by first | exact .inl rfl | exact .inr rfl | assumption):PG X (.Name x pos) (gName i):=by intro pins s σ H v u Q I r h;exact wpAny_assign_Name (Zhz I hN hi hx r (fun s' I'=>⟨_,H,I',h⟩) hf)
def gNil:TGs:=fun vs σ H Q=>vs=[]∧Q σ H
def gCons (t:TG)(u:TGs):TGs:=fun vs σ H Q=>∃ v r,vs=v::r∧t v σ H fun σ' H'=>u r σ' H' Q
theorem Zdd:PGs X [] gNil:=by intro pins s σ H vs us Q I r h;obtain ⟨e,h⟩:=h;subst e;cases r;exact assignInOrder_nil ⟨σ,H,I,h⟩
theorem ZaR {e:Expr}{es:List Expr}{t:TG}{u:TGs}(h1:PG X e t)(h2:PGs X es u)
   (hs:(assignEach (e::es) X.env).map (·.2)=assign e X.env::(assignEach es X.env).map (·.2):=by rfl):PGs X (e::es) (gCons t u):=by
 intro pins s σ H vs us Q I r h;obtain ⟨v,vr,e1,h⟩:=h;subst e1;cases r with
 | cons r rr =>
   rw [hs];refine assignInOrder_cons (thn (h1 pins s σ H _ _ _ I r h) fun _ s1 ⟨σ1,H1,I1,q1⟩=>?_);exact h2 pins s1 σ1 H1 _ _ Q I1 rr q1
def gTup (K:PySem.W.Frag)(n:Nat)(t:TGs):TG:=fun v σ H Q=>∃ a xs,v=.ref a∧SqT K H a xs∧xs.length=n∧t xs σ H Q
theorem pg_tup {es:List Expr}{k:Nat}{t:TGs}{n:Nat}(hc:X.calm=true)(h:PGs X es t)
   (hn:(assignEach es X.env).length=n:=by rfl) (hst:(assignEach es X.env).findIdx? (·.1)=none:=by rfl):PG X (.Tuple es k pos) (gTup X.K n t):=by
 intro pins s σ H v u Q I r hw;obtain ⟨a,xs,e1,hq,hl,hw⟩:=hw;subst e1;cases r;obtain ⟨its,rv,ht,hz⟩:=I.tuple hq;refine assign_Tuple_tuple (I.ok.hd hc) ht (by simp [hn,← hl,rv.length]) hst fun h' hx=>?_
 have I1:Inv X pins σ H { s with heap:=h' }:=I.kept (t':=s.toks) fun b o e=>hx b o (Nat.ne_of_lt (Heap.lt_size e)) e
 exact h pins _ σ H xs _ Q I1 (by simpa using rv) hw
def tAsg (te:TE)(g:TG):TS:=fun D σ H=>te σ H fun x H1=>g x σ H1 D.nx
theorem ps_asg {tg e:Expr}{te:TE}{g:TG}(he:PE X e te)(hg:PG X tg g)(hs:swapsWithSole [tg] e pos.line X.env=pure false:=by rfl)(hw:swappedStores [tg] e X.env=pure none:=by rfl)
   (h1:(assignEach [tg] X.env).map (·.2)=[assign tg X.env]:=by rfl):PS X (.Assign [tg] e pos) (tAsg te g):=by
 intro pins s σ H D I h;refine wpAny_Assign_stores (thn (he pins s σ H _ I h) fun v s1 ⟨x,H1,I1,r1,q1⟩=>?_) hs hw;rw [h1];exact thn (hg pins s1 σ H1 x v _ I1 r1 q1) fun _ s2 q=>q
theorem Zao {i:Nat}{x:Str}{e:Expr}{te:TE}{pos':Pos}(hN:X.N.Nodup)(hi:X.N[i]?=some x)(hx:Loc X.env.scope x)(he:PE X e te)(hs:swapsWith e (some (.Name x pos')) pos.line X.env=pure false:=by rfl)(hf:X.fn x=true∨X.env.scope.names.lookup x=some .local:=by first | exact .inl rfl | exact .inr rfl | assumption) :
   PS X (.Assign [.Name x pos'] e pos) (tAsg te (gName i)):=by
 intro pins s σ H D I h;refine wpAny_Assign_Name (thn (he pins s σ H _ I h) fun v s1 ⟨y,H1,I1,r1,q1⟩=>?_) hs;exact Zhz I1 hN hi hx r1 (fun s2 I2=>⟨_,H1,I2,q1⟩) hf
end
section
variable {X:Cx}{pos:Pos}
def tWhile (c:TT)(tb:TS):TS:=fun D σ H=>∃ W:Nat→St→Hp→Prop,(∃ m,W m σ H)∧∀ m σ H,W m σ H →
 c σ H fun b H1=>if b=true then ∃ N:St→Hp→Prop,(∀ σ' H',N σ' H'→∃ m',m'<m∧W m' σ' H')∧tb { D with nx:=N,ct:=N,bk:=D.nx } σ H1 else D.nx σ H1
theorem Zeq {c:Expr}{body:List Stmt}{tc:TT}{tb:TS}(hp:PassesOwn (model X.prog X.w) X.A X.env X.xe)(hc:PT X c tc)(hb:PSs X body tb):PS X (.While c body [] pos) (tWhile tc tb):=by
 intro pins s σ H D I h;obtain ⟨W,⟨m0,w0⟩,turn⟩:=h;refine wpAny_While (codeAny_whileLoop (fun n s'=>∃ σ' H',Inv X pins σ' H' s'∧W n σ' H') ?_ m0 ⟨σ,H,I,w0⟩);rintro n s1 ⟨σ1,H1,I1,w1⟩;refine wpAny_passesOwn hp (thn (hc pins s1 σ1 H1 _ I1 (turn n σ1 H1 w1)) fun b s2 ⟨H2,I2,q2⟩=>?_);cases b with
 | true =>
   obtain ⟨N,hN,q2⟩:=q2;rw [if_pos rfl];refine wpAny_passesOwn hp (thn (hb pins s2 σ1 H2 _ I2 q2) fun f s3 q3=>?_);cases f with
   | next =>
     obtain ⟨σ3,H3,I3,n3⟩:=q3;obtain ⟨m',hm,w3⟩:=hN σ3 H3 n3;exact ⟨m',hm,σ3,H3,I3,w3⟩
   | cont =>
     obtain ⟨σ3,H3,I3,n3⟩:=q3;obtain ⟨m',hm,w3⟩:=hN σ3 H3 n3;exact ⟨m',hm,σ3,H3,I3,w3⟩
   | brk=>exact q3
   | ret v=>exact q3
 | false =>
   rw [if_neg Bool.false_ne_true];exact wpAny_execs_nil ⟨σ1,H2,I2,q2⟩
end
structure It where
 go:Nat→Hp→Prop
 yld:Nat→Hp→V→Hp→Prop
 stop:Nat→Hp→Prop
def FpOk (X:Cx)(pins:List (Addr × Obj))(H:Hp)(b:Addr):Prop :=
 H b=none∧b≠X.env.locals∧b∉X.fs∧(b∈X.ex∨X.s₀.heap.objs.size≤b)∧(∀ x c,X.env.cells.lookup x=some c→c≠b)∧∀ p∈X.pn++pins,p.1≠b
theorem Inv.fpOk {X:Cx}{pins:List (Addr × Obj)}{σ:St}{H H':Hp}{s:Shared}{b:Addr}(I:Inv X pins σ H s)(hb:s.heap.objs.size≤b)(hn:H' b=none):FpOk X pins H' b:=by
 refine ⟨hn,Nat.ne_of_gt (Nat.lt_of_lt_of_le I.lt hb),I.nofs hb,.inr (Nat.le_trans I.sz hb),fun x c e z=>?_,fun p hp z=>?_⟩
 · obtain ⟨v,q⟩:=I.cell x c e
   exact absurd (Nat.lt_of_lt_of_le q.lt (by rw [z];exact hb)) (Nat.lt_irrefl _)
 · exact absurd (Nat.lt_of_lt_of_le (Heap.lt_size (I.pin p hp).1) (by rw [z];exact hb)) (Nat.lt_irrefl _)
structure Turn (P:Program)(w:World)(K:PySem.W.Frag)(tg:Expr)(J:It)(fp:List Addr)(it:Addr)(tn:Nat→Heap→Prop):Prop where
 mem:it∈fp
 obj:∀ i h,tn i h→∀ b∈fp,∃ o,h.get? b=some o∧∀ v,o.data≠.cell v
 keep:∀ i h h',tn i h→(∀ b∈fp,∀ o,h.get? b=some o→h'.get? b=some o)→tn i h'
 item:∀ (X:Cx),X.prog=P→X.w=w→X.K=K→X.calm=true→∀ (i:Nat) (pins:List (Addr × Obj)) (s:Shared) (σ:St) (H:Hp) (E:Value→Shared→Prop),Inv X pins σ H s→(∀ b∈fp,FpOk X pins H b)→tn i s.heap→J.go i H →
   wpAny (model P w) X.A (pyNext (.ref it)) (fun r s1=>∃ u,r=some u ∧
     wpAny (model P w) X.A (letOwnedTupleGo tg (.ref it) u) (fun _ s2=>∃ x H',Inv X pins σ H' s2∧RelV x u∧J.yld i H x H'∧tn (i+1) s2.heap∧∀ b∈fp,H' b=none) E s1) E s
 done:∀ (X:Cx),X.prog=P→X.w=w→X.K=K→X.calm=true→∀ (i:Nat) (pins:List (Addr × Obj)) (s:Shared) (σ:St) (H:Hp) (E:Value→Shared→Prop),Inv X pins σ H s→(∀ b∈fp,FpOk X pins H b)→tn i s.heap→J.stop i H →
   wpAny (model P w) X.A (pyNext (.ref it)) (fun r s1=>r=none∧Inv X pins σ H s1) E s
 self:∀ (A:Around) (i:Nat) (s:Shared) (Q:Value→Shared→Prop) (E:Value→Shared→Prop),tn i s.heap→Q (.ref it) s→wpAny (model P w) A (pyIter (.ref it)) Q E s
abbrev TI:=St→Hp→(It→Hp→Prop)→Prop
def PIE (X:Cx)(pins:List (Addr × Obj))(σ:St)(tg:Expr)(R:It→Hp→Prop)(itv:Value)(s2:Shared):Prop :=
 ∃ (it:Addr) (fp:List Addr) (tn:Nat→Heap→Prop) (J:It) (H':Hp),itv=.ref it∧Inv X pins σ H' s2∧Turn X.prog X.w X.K tg J fp it tn∧tn 0 s2.heap∧(∀ b∈fp,FpOk X pins H' b)∧R J H'
def PI (X:Cx) (tg iter:Expr) (wi:TI):Prop :=
 ∀ (pins:List (Addr × Obj)) (s:Shared) (σ:St) (H:Hp) (R:It→Hp→Prop),Inv X pins σ H s→wi σ H R →
   wpAny (model X.prog X.w) X.A (eval iter X.env) (fun v s1=>wpAny (model X.prog X.w) X.A (pyIter v) (PIE X pins σ tg R) X.xe s1) X.xe s
theorem go_of {M:Model} {A:Around} {E:Value→Shared→Prop} {s:Shared} {tg:Expr} {it:Addr} {u:Value} {o:Obj} {n:String} {vs:Array Value} {Q:Unit→Shared→Prop} (ho:s.heap.get? it=some o) (hc:o.cls=.type n) (hd:o.data=.fields vs)
   (hn:["enumerate","zip","dict_itemiterator","dict_reverseitemiterator","odict_iterator","itertools.zip_longest","itertools.pairwise"].contains n=false) (hQ:Q () s):wpAny M A (letOwnedTupleGo tg (.ref it) u) Q E s:=by
 unfold letOwnedTupleGo
 cases tg <;> first
   | exact wpAny_pure hQ
   | (cases u<;>first
       | exact wpAny_pure hQ
       | (refine wpAny_bind (wpAny_load ho ?_)
          rw [hc,hd];show wpAny M A (if (["enumerate","zip","dict_itemiterator","dict_reverseitemiterator","odict_iterator","itertools.zip_longest","itertools.pairwise"].contains n&&vs[0]?==some (rawInt _))=true then _ else _) Q E s;rw [if_neg (by intro h;rw [hn,Bool.false_and] at h;cases h)];exact wpAny_pure hQ))
def Itl (K:PySem.W.Frag)(a:Addr):It :=
 ⟨fun i H=>∃ xs x,SqL K H a xs∧xs[i]?=some x,fun i H x H'=>H'=H∧∀ xs,SqL K H a xs→xs[i]?=some x,fun i H=>∃ xs,SqL K H a xs∧xs.length≤i⟩
def Itr (lo:Int)(n:Nat):It:=⟨fun i _=>i<n,fun i H x H'=>H'=H∧x=.int (lo+i),fun i _=>n≤i⟩
theorem ZjO {P:Program}{w:World}{K:PySem.W.Frag}{tg:Expr}(a it:Addr):Turn P w K tg (Itl K a) [it] it (fun i h=>h.IsListIter it a i) where
 mem:=by simp
 obj:=fun i h st b hb=>by
   have e:b=it:=by simpa using hb
   subst e;obtain ⟨o,e,c,d⟩:=st;exact ⟨o,e,fun v z=>by rw [d] at z;cases z⟩
 keep:=fun i h h' st k=>st.at fun o e=>k it (by simp) o e
 item:=by
   intro X hP hw hK hc i pins s σ H E I hf st hg;subst hP hw hK;obtain ⟨xs,x,hq,hx⟩:=hg;obtain ⟨its,rv,p,hz⟩:=I.list hq;obtain ⟨u,hu,ru⟩:=rv.get hx;obtain ⟨f0,f1,f2,f3,f4,f5⟩:=hf it (by simp);refine wpAny_pyNext_list_item st p.isList (x:=u) (by simpa using hu) fun h' st' sb=>?_
   have I1:Inv X pins σ H { s with heap:=h' }:=I.turned (t':=s.toks) (fun b o hb e=>(sb.2 b hb).trans e) f0 f1 f3 f4 f5;obtain ⟨o,e,c,d⟩:=id st';exact ⟨u,rfl,go_of (s:={ s with heap:=h' }) e c d (by decide) ⟨x,H,I1,ru,⟨rfl,fun ys hy=>by rw [I.list_inj hy hq];exact hx⟩,st',fun b hb=>(hf b hb).1⟩⟩
 done:=by intro X hP hw hK hc i pins s σ H E I hf st hg;subst hP hw hK;obtain ⟨xs,hq,hx⟩:=hg;obtain ⟨its,rv,p,hz⟩:=I.list hq;obtain ⟨f0,f1,f2,f3,f4,f5⟩:=hf it (by simp);have hl:=rv.length;exact wpAny_pyNext_list_end (I.ok.hd hc) st p.isList (by simp;omega) fun h' eb=>⟨rfl,I.turned (t':=s.toks) (fun b o hb e=>eb b o hb e) f0 f1 f3 f4 f5⟩
 self:=fun _ _ _ _ _ st h=>wpAny_pyIter_listiter st h
theorem Zh0 {P:Program}{w:World}{K:PySem.W.Frag}{tg:Expr}(it:Addr)(lo:Int)(n:Nat):Turn P w K tg (Itr lo n) [it] it (fun i h=>IsRangeIter h it (lo+(i:Nat)*1) ((n:Int)-(i:Nat)) 1) where
 mem:=by simp
 obj := fun i h st b hb=>by
   have e:b=it:=by simpa using hb
   subst e;exact ⟨_,st,fun v z=>by
     have z':Data.fields _=Data.cell v:=z;cases z'⟩
 keep:=fun i h h' st k=>k it (by simp) _ st
 item:=by
   intro X hP hw hK hc i pins s σ H E I hf st hg;subst hP hw hK;obtain ⟨f0,f1,f2,f3,f4,f5⟩:=hf it (by simp);have W:=Walks.range (prog:=X.prog) (w:=X.w) (I.ok.hd hc) it lo 1 n;refine W.item i s _ _ hg st fun v h' tk hv st' kk=>?_
   obtain ⟨t,rfl⟩:=hv;have I1:Inv X pins σ H { s with heap:=h',toks:=tk }:=I.turned (fun b o hb e=>kk b o (by simpa using hb) e) f0 f1 f3 f4 f5;refine ⟨_,rfl,go_of (s:={ s with heap:=h',toks:=tk }) (n:="range_iterator") st' rfl rfl (by decide) ⟨.int (lo+i),H,I1,⟨t,?_⟩,⟨rfl,rfl⟩,st',fun b hb=>(hf b hb).1⟩⟩;rw [Int.mul_one]
 done:=by intro X hP hw hK hc i pins s σ H E I hf st hg;subst hP hw hK;obtain ⟨f0,f1,f2,f3,f4,f5⟩:=hf it (by simp);exact wpAny_pyNext_range_end (I.ok.hd hc) st (by have:n≤i:=hg;omega) fun h' eb=>⟨rfl,I.turned (t':=s.toks) (fun b o hb e=>eb b o hb e) f0 f1 f3 f4 f5⟩
 self:=fun _ _ _ _ _ st h=>wpAny_pyIter_rangeiter st h
end L2
namespace L2
open PySem PySem.Spec PyProof.Rows
section
variable {X:Cx}{tg:Expr}
def iList (K:PySem.W.Frag)(tl:TE):TI:=fun σ H R=>tl σ H fun x H1=>∃ a,x=.ref a∧(∃ xs,SqL K H1 a xs)∧R (Itl K a) H1
theorem pi_list {l:Expr}{tl:TE}(hl:PE X l tl):PI X tg l (iList X.K tl):=by
 intro pins s σ H R I h;refine thn (hl pins s σ H _ I h) fun v s1 ⟨x,H1,I1,r1,q1⟩=>?_
 obtain ⟨a,e,⟨xs,hq⟩,q⟩:=q1;subst e;cases r1;obtain ⟨its,rv,p,hz⟩:=I1.list hq;refine wpAny_pyIter_list p.isList ?_;refine ⟨s1.heap.objs.size,[s1.heap.objs.size],_,_,H1,rfl,I1.kept (t':=s1.toks) fun b o e=>Heap.get?_push_of_some _ e,ZjO a _,⟨_,Heap.get?_push_size _ rfl,rfl,rfl⟩,fun b hb=>?_,q⟩;have e:b=s1.heap.objs.size:=by simpa using hb
 subst e;exact I1.fpOk (Nat.le_refl _) (I1.hok.fresh (Nat.le_refl _))
theorem range_it {pins:List (Addr × Obj)}{σ:St}{H:Hp}{s:Shared}{R:It→Hp→Prop}{E:Value→Shared→Prop}{lo hi:Int}{t u v:Tok}{tk:Nat}(I:Inv X pins σ H s)(h1:-(2^62)≤lo)(h2:lo<2^62)(h3:-(2^62)≤hi)(h4:hi<2^62)
   (q:R (Itr lo (hi-lo).toNat) H):wpAny (model X.prog X.w) X.A (pyIter (.ref s.heap.objs.size)) (PIE X pins σ tg R) E { s with heap:=s.heap.push { cls:=.type "range",data:=.fields #[.int lo t,.int hi u,.int 1 v] },toks:=tk }:=by
 refine wpAny_pyIter_range (IsRange.new ..) (small_one h1 h2 h3 h4) ?_;have I1:Inv X pins σ H { s with heap:=s.heap.push { cls:=.type "range",data:=.fields #[.int lo t,.int hi u,.int 1 v] },toks:=tk }:=I.kept fun b o e=>Heap.get?_push_of_some _ e
 refine ⟨(s.heap.push { cls:=.type "range",data:=.fields #[.int lo t,.int hi u,.int 1 v] }).objs.size,[(s.heap.push { cls:=.type "range",data:=.fields #[.int lo t,.int hi u,.int 1 v] }).objs.size],_,_,H,rfl,
   I1.kept (t':=tk) fun b o e=>Heap.get?_push_of_some _ e,Zh0 _ lo (hi-lo).toNat,?_,fun b hb=>?_,q⟩
 · have e1:lo+((0:Nat):Int)*1=lo:=by simp
   have e2:(((hi-lo).toNat:Nat):Int)-((0:Nat):Int)=Builtin.Range.rangeSize lo hi 1:=by rw [rangeSize_one];split<;>omega
   show IsRangeIter _ _ (lo+((0:Nat):Int)*1) ((((hi-lo).toNat:Nat):Int)-((0:Nat):Int)) 1;rw [e1,e2];exact Heap.get?_push_size _ rfl
 · have e:b=(s.heap.push { cls:=.type "range",data:=.fields #[.int lo t,.int hi u,.int 1 v] }).objs.size:=by simpa using hb
   subst e;exact I1.fpOk (Nat.le_refl _) (I1.hok.fresh (Nat.le_refl _))
def iRng1 (ta:TA):TI:=fun σ H R=>ta σ H fun vs H1=>∃ j:Int,vs=[.int j]∧-(2^62)≤j∧j<2^62∧R (Itr 0 j.toNat) H1
theorem ZcG {a:Expr}{ta:TA}{p pos:Pos}(hg:Gl X "range")(hm:X.mg "range"=none)(ha:PA X [a] ta)(hs:starEach [a] X.env=[(false,eval a X.env)]:=by rfl):PI X tg (.Call (.Name "range" p) [a] [] pos) (iRng1 ta):=by
 intro pins s σ H R I h;refine Call_ (ZbR I hg hm boot_range (PyProof.Rows.callWith_type1 (thn (ha pos pins s σ H _ I h) fun us s1 ⟨vs,H1,I1,r1,q1⟩=>?_) hs rfl));obtain ⟨j,e,q1,q2,q⟩:=q1;subst e;cases r1 with
 | cons r rr =>
   cases rr;obtain ⟨t,rfl⟩:=r;exact call_range_1 (range_it I1 (by omega) (by omega) q1 q2 (by simpa using q))
def tFor (wi:TI)(g:TG)(tb:TS):TS:=fun D σ H=>wi σ H fun J H1=>∃ W:Nat→Nat→St→Hp→Prop,(∃ m,W 0 m σ H1)∧∀ i m σ H,W i m σ H →
 (J.stop i H∧D.nx σ H)∨(J.go i H∧∃ N:St→Hp→Prop,(∀ σ' H',N σ' H'→∃ m',m'<m∧W (i+1) m' σ' H')∧∀ x H',J.yld i H x H'→g x σ H' fun σ2 H2=>tb { D with nx:=N,ct:=N,bk:=D.nx } σ2 H2)
def pinsAt (fp:List Addr)(h:Heap):List (Addr × Obj):=fp.filterMap fun b=>(h.get? b).map fun o=>(b,o)
theorem ZcQ {fp:List Addr}{h:Heap}{b:Addr}{o:Obj}(hb:b∈fp)(e:h.get? b=some o):(b,o)∈pinsAt fp h:=List.mem_filterMap.mpr ⟨b,hb,by rw [e];rfl⟩
theorem Zkc {fp:List Addr}{h:Heap}{p:Addr × Obj}(hp:p∈pinsAt fp h):p.1∈fp∧h.get? p.1=some p.2:=by
 obtain ⟨b,hb,e⟩:=List.mem_filterMap.mp hp;cases q:h.get? b with
 | none=>rw [q] at e;cases e
 | some o =>
   rw [q] at e;have e':(b,o)=p:=Option.some.inj e;subst e';exact ⟨hb,q⟩
theorem Inv.pinned {pins:List (Addr × Obj)}{σ:St}{H:Hp}{s:Shared}{fp:List Addr}(I:Inv X pins σ H s)(hf:∀ b∈fp,FpOk X pins H b)(ho:∀ b∈fp,∃ o,s.heap.get? b=some o∧∀ v,o.data≠.cell v):Inv X (pins++pinsAt fp s.heap) σ H s :=
 I.pins_of fun p hp=>(List.mem_append.mp hp).elim (fun z=>I.pin p (List.mem_append_right _ z)) fun z=>by
   obtain ⟨hb,e⟩:=Zkc z;obtain ⟨f0,f1,f2,_⟩:=hf p.1 hb;obtain ⟨o,e',d⟩:=ho p.1 hb;rw [e] at e';cases e';exact ⟨e,f0,f1,f2,d⟩
theorem Inv.unpinned {pins pl:List (Addr × Obj)}{σ:St}{H:Hp}{s:Shared}(I:Inv X (pins++pl) σ H s):Inv X pins σ H s:=I.pins_of fun p hp=>I.pin p (List.mem_append_right _ (List.mem_append_left _ hp))
theorem ZcS {iter:Expr}{body:List Stmt}{wi:TI}{g:TG}{tb:TS}{pos:Pos}(hp:PassesOwn (model X.prog X.w) X.A X.env X.xe)(hc:X.calm=true)(hi:PI X tg iter wi)(hg:PG X tg g)(hb:PSs X body tb)
   (hs:∀ x,foldedSetIterable iter X.env x=pure x:=by intro _;rfl):PS X (.For tg iter body [] pos) (tFor wi g tb):=by
 intro pins s σ H D I h;refine wpAny_For (thn (hi pins s σ H _ I h) fun v s1 h1=>thn h1 fun itv s2 h2=>?_) hs;obtain ⟨it,fp,tn,J,H2,e,I2,T,st2,f2,W,⟨m0,w0⟩,turn⟩:=h2;subst e;have stat:∀ {H':Hp},(∀ b∈fp,H' b=none)→∀ b∈fp,FpOk X pins H' b:=fun hn b hb=>⟨hn b hb,(f2 b hb).2⟩
 refine codeAny_forLoop_any (fun n s'=>∃ i σ' H',Inv X pins σ' H' s'∧tn i s'.heap∧(∀ b∈fp,H' b=none)∧W i n σ' H') ?_ m0 ⟨0,σ,H2,I2,st2,fun b hb=>(f2 b hb).1,w0⟩;rintro n s3 ⟨i,σ3,H3,I3,st3,fr3,w3⟩;rcases turn i n σ3 H3 w3 with ⟨stop,qn⟩ | ⟨go,N,hN,step⟩
 · refine wpAny_passesOwn hp (thn (T.done X rfl rfl rfl hc i pins s3 σ3 H3 X.xe I3 (stat fr3) st3 stop) fun r s4 ⟨hr,I4⟩=>?_)
   subst hr;exact wpAny_execs_nil ⟨σ3,H3,I4,qn⟩
 · refine wpAny_passesOwn hp (thn (T.item X rfl rfl rfl hc i pins s3 σ3 H3 X.xe I3 (stat fr3) st3 go) fun r s4 ⟨u,hr,h4⟩=>?_)
   subst hr;refine wpAny_passesOwn hp (thn h4 fun _ s5 ⟨x,H5,I5,r5,y5,st5,fr5⟩=>?_);have I5':=I5.pinned (stat fr5) (T.obj _ _ st5);refine wpAny_passesOwn hp (thn (hg _ s5 σ3 H5 x u _ I5' r5 (step x H5 y5)) fun _ s6 ⟨σ6,H6,I6,q6⟩=>?_);refine wpAny_passesOwn hp (thn (hb _ s6 σ6 H6 _ I6 q6) fun f s7 q7=>?_);have again:∀ {σ7:St} {H7:Hp},Inv X (pins++pinsAt fp s5.heap) σ7 H7 s7→N σ7 H7→∃ m,m<n∧∃ i σ' H',Inv X pins σ' H' s7∧tn i s7.heap∧(∀ b∈fp,H' b=none)∧W i m σ' H':=fun {σ7 H7} I7 n7=>by
     obtain ⟨m',hm,w7⟩:=hN σ7 H7 n7;refine ⟨m',hm,i+1,σ7,H7,I7.unpinned,T.keep _ _ _ st5 fun b hb o e=>(I7.pin (b,o) (List.mem_append_right _ (List.mem_append_right _ (ZcQ hb e)))).1,fun b hb=>?_,w7⟩;obtain ⟨o,e,d⟩:=T.obj _ _ st5 b hb;exact (I7.pin (b,o) (List.mem_append_right _ (List.mem_append_right _ (ZcQ hb e)))).2.1
   cases f with
   | next=>obtain ⟨σ7,H7,I7,n7⟩:=q7;exact again I7 n7
   | cont=>obtain ⟨σ7,H7,I7,n7⟩:=q7;exact again I7 n7
   | brk=>obtain ⟨σ7,H7,I7,q7⟩:=q7;exact ⟨σ7,H7,I7.unpinned,q7⟩
   | ret v=>obtain ⟨x7,σ7,H7,I7,r7,q7⟩:=q7;exact ⟨x7,σ7,H7,I7.unpinned,r7,q7⟩
end
theorem for_list {K:PySem.W.Frag}{a:Addr}{xs:List V}{g:TG}{tb:TS}{D:Ends}{σ:St}{H:Hp}(Pv:Nat→St→Hp→Prop)(h0:Pv 0 σ H)(hl:∀ i σ H,i≤xs.length→Pv i σ H→SqL K H a xs)
   (hs:∀ i x σ H,xs[i]?=some x→Pv i σ H→g x σ H fun σ2 H2=>tb { D with nx:=Pv (i+1),ct:=Pv (i+1),bk:=D.nx } σ2 H2) (hd:∀ σ H,Pv xs.length σ H→D.nx σ H) :
   ∃ W:Nat→Nat→St→Hp→Prop,(∃ m,W 0 m σ H)∧∀ i m σ H,W i m σ H →
     ((Itl K a).stop i H∧D.nx σ H)∨((Itl K a).go i H∧∃ N:St→Hp→Prop,(∀ σ' H',N σ' H'→∃ m',m'<m∧W (i+1) m' σ' H')∧∀ x H',(Itl K a).yld i H x H'→g x σ H' fun σ2 H2=>tb { D with nx:=N,ct:=N,bk:=D.nx } σ2 H2):=by
 refine ⟨fun i m σ H=>m=xs.length-i∧i≤xs.length∧Pv i σ H,⟨xs.length,by simp,Nat.zero_le _,h0⟩,?_⟩;rintro i m σ H ⟨rfl,hi,p⟩;have q:=hl i σ H hi p;by_cases hlt:i<xs.length
 · refine .inr ⟨⟨xs,xs[i],q,by simp [hlt]⟩,Pv (i+1),fun σ' H' p'=>⟨xs.length-(i+1),by omega,rfl,hlt,p'⟩,fun x H' y=>?_⟩
   obtain ⟨e,y⟩:=y;subst e;exact hs i x σ _ (y xs q) p
 · have e:i=xs.length:=by omega
   subst e;exact .inl ⟨⟨xs,q,Nat.le_refl _⟩,hd σ H p⟩
theorem Zjx {lo:Int}{n:Nat}{g:TG}{tb:TS}{D:Ends}{σ:St}{H:Hp}(Pv:Nat→St→Hp→Prop)(h0:Pv 0 σ H)
   (hs:∀ i σ H,i<n→Pv i σ H→g (.int (lo+i)) σ H fun σ2 H2=>tb { D with nx:=Pv (i+1),ct:=Pv (i+1),bk:=D.nx } σ2 H2) (hd:∀ σ H,Pv n σ H→D.nx σ H) :
   ∃ W:Nat→Nat→St→Hp→Prop,(∃ m,W 0 m σ H)∧∀ i m σ H,W i m σ H →
     ((Itr lo n).stop i H∧D.nx σ H)∨((Itr lo n).go i H∧∃ N:St→Hp→Prop,(∀ σ' H',N σ' H'→∃ m',m'<m∧W (i+1) m' σ' H')∧∀ x H',(Itr lo n).yld i H x H'→g x σ H' fun σ2 H2=>tb { D with nx:=N,ct:=N,bk:=D.nx } σ2 H2):=by
 refine ⟨fun i m σ H=>m=n-i∧i≤n∧Pv i σ H,⟨n,by simp,Nat.zero_le _,h0⟩,?_⟩;rintro i m σ H ⟨rfl,hi,p⟩;by_cases hlt:i<n
 · refine .inr ⟨hlt,Pv (i+1),fun σ' H' p'=>⟨n-(i+1),by omega,rfl,hlt,p'⟩,fun x H' y=>?_⟩
   obtain ⟨e,y⟩:=y;subst e y;exact hs i σ _ hlt p
 · have e:i=n:=by omega
   subst e;exact .inl ⟨Nat.le_refl _,hd σ H p⟩
theorem Zeu {c:TT}{tb:TS}{D:Ends}{σ:St}{H:Hp}(Pv:St→Hp→Prop)(μ:St→Hp→Nat)(h0:Pv σ H)
   (hs:∀ σ H,Pv σ H→c σ H fun b H1=>if b=true then tb { D with nx:=fun σ' H'=>Pv σ' H'∧μ σ' H'<μ σ H,ct:=fun σ' H'=>Pv σ' H'∧μ σ' H'<μ σ H,bk:=D.nx } σ H1 else D.nx σ H1)
   (mono:∀ σ H Q Q',(∀ b H1,Q b H1→Q' b H1)→c σ H Q→c σ H Q'):tWhile c tb D σ H:=by
 refine ⟨fun m σ H=>m=μ σ H∧Pv σ H,⟨_,rfl,h0⟩,?_⟩;rintro m σ H ⟨rfl,p⟩;refine mono σ H _ _ (fun b H1 q=>?_) (hs σ H p);cases b with
 | true=>exact ⟨_,fun σ' H' ⟨p',l⟩=>⟨_,l,rfl,p'⟩,q⟩
 | false=>exact q
end L2
namespace L2
open PySem PySem.Spec PyProof.Rows
abbrev R2:=V→V→Hp→VK→Prop
def OpR (X:Cx) (f:Value→Value→Sem Value) (r:R2):Prop :=
 ∀ (pins:List (Addr × Obj)) (s:Shared) (σ:St) (H:Hp) (x y:V) (v u:Value) (Q:VK),Inv X pins σ H s→RelV x v→RelV y u→r x y H Q →
   wpAny (model X.prog X.w) X.A (f v u) (EP X pins σ Q) X.xe s
def UnR (X:Cx) (f:Value→Sem Value) (r:V→Hp→VK→Prop):Prop :=
 ∀ (pins:List (Addr × Obj)) (s:Shared) (σ:St) (H:Hp) (x:V) (v:Value) (Q:VK),Inv X pins σ H s→RelV x v→r x H Q →
   wpAny (model X.prog X.w) X.A (f v) (EP X pins σ Q) X.xe s
def CallR (X:Cx) (f:Value) (r:List V→Hp→VK→Prop):Prop :=
 ∀ (pins:List (Addr × Obj)) (s:Shared) (σ:St) (H:Hp) (xs:List V) (us:List Value) (Q:VK),Inv X pins σ H s→Vals xs us→r xs H Q →
   wpAny (model X.prog X.w) X.A (call f us) (EP X pins σ Q) X.xe s
def tOp (r:R2)(ta tb:TE):TE:=fun σ H Q=>ta σ H fun x H1=>tb σ H1 fun y H2=>r x y H2 Q
def tUn (r:V→Hp→VK→Prop)(ta:TE):TE:=fun σ H Q=>ta σ H fun x H1=>r x H1 Q
def rI (C:Int→Int→Prop)(g:Int→Int→V):R2:=fun x y H Q=>∃ i j,x=.int i∧y=.int j∧C i j∧Q (g i j) H
def rI0 (g:Int→Int→V):R2:=fun x y H Q=>∃ i j,x=.int i∧y=.int j∧Q (g i j) H
def rU (g:Int→V):V→Hp→VK→Prop:=fun x H Q=>∃ i,x=.int i∧Q (g i) H
section
variable {X:Cx}{a b c:Expr}{ta tb tc:TE}{pos:Pos}
theorem binT (ha:PE X a ta)(hb:PE X b tb){pins:List (Addr × Obj)}{s:Shared}{σ:St}{H:Hp}{R:V→V→Hp→Prop}(I:Inv X pins σ H s)
   (h:ta σ H fun x H1=>tb σ H1 fun y H2=>R x y H2) {Q:Value→Shared→Prop} {f:Value→Value→Sem Value}
   (hf:∀ v u s2 x y H2,Inv X pins σ H2 s2→RelV x v→RelV y u→R x y H2→wpAny (model X.prog X.w) X.A (f v u) Q X.xe s2) :
   wpAny (model X.prog X.w) X.A (eval a X.env) (fun v s₁=>wpAny (model X.prog X.w) X.A (eval b X.env) (fun u s₂=>wpAny (model X.prog X.w) X.A (f v u) Q X.xe s₂) X.xe s₁) X.xe s:=by
 refine thn (ha pins s σ H _ I h) fun v s1 ⟨x,H1,I1,r1,q1⟩=>?_
 refine thn (hb pins s1 σ H1 _ I1 q1) fun u s2 ⟨y,H2,I2,r2,q2⟩=>?_
 exact hf v u s2 x y H2 I2 r1 r2 q2
theorem Zai {op:Operator}{r:R2}(ho:OpR X (binaryOp op) r)(ha:PE X a ta)(hb:PE X b tb):PE X (.BinOp a op b pos) (tOp r ta tb):=by intro pins s σ H Q I h;exact wpAny_BinOp (binT ha hb I h fun v u s2 x y H2 I2 rx ry q=>ho pins s2 σ H2 x y v u Q I2 rx ry q)
theorem pe_un {op:UnaryOp}{r:V→Hp→VK→Prop}(ho:UnR X (unaryOp op) r)(ha:PE X a ta):PE X (.UnaryOp op a pos) (tUn r ta):=by intro pins s σ H Q I h;exact UnaryOp_ (thn (ha pins s σ H _ I h) fun v s1 ⟨x,H1,I1,r1,q1⟩=>ho pins s1 σ H1 x v Q I1 r1 q1)
theorem opI {f:Value→Value→Sem Value}{C:Int→Int→Prop}{g:Int→Int→Int}
   (rule:∀ (i j:Int) (t u:Tok) (s:Shared) (Q:Value→Shared→Prop) (E:Value→Shared→Prop),C i j→Q (.int (g i j) s.toks) { s with toks:=s.toks+1 }→wpAny (model X.prog X.w) X.A (f (.int i t) (.int j u)) Q E s) :
   OpR X f (rI C fun i j=>.int (g i j)):=by
 intro pins s σ H x y v u Q I rx ry h;obtain ⟨i,j,rfl,rfl,hc,q⟩:=h;obtain ⟨t,rfl⟩:=rx;obtain ⟨t',rfl⟩:=ry;exact rule i j t t' s _ _ hc ⟨.int (g i j),H,I.tok _,⟨_,rfl⟩,q⟩
theorem opI0 {f:Value→Value→Sem Value}{g:Int→Int→Int}
   (rule:∀ (i j:Int) (t u:Tok) (s:Shared) (Q:Value→Shared→Prop) (E:Value→Shared→Prop),Q (.int (g i j) s.toks) { s with toks:=s.toks+1 }→wpAny (model X.prog X.w) X.A (f (.int i t) (.int j u)) Q E s) :
   OpR X f (rI0 fun i j=>.int (g i j)):=by
 intro pins s σ H x y v u Q I rx ry h;obtain ⟨i,j,rfl,rfl,q⟩:=h;obtain ⟨t,rfl⟩:=rx;obtain ⟨t',rfl⟩:=ry;exact rule i j t t' s _ _ ⟨.int (g i j),H,I.tok _,⟨_,rfl⟩,q⟩
theorem opB0 {f:Value→Value→Sem Value}{g:Int→Int→Bool}
   (rule:∀ (i j:Int) (t u:Tok) (s:Shared) (Q:Value→Shared→Prop) (E:Value→Shared→Prop),Q (.bool (g i j)) s→wpAny (model X.prog X.w) X.A (f (.int i t) (.int j u)) Q E s) :
   OpR X f (rI0 fun i j=>.bl (g i j)):=by
 intro pins s σ H x y v u Q I rx ry h;obtain ⟨i,j,rfl,rfl,q⟩:=h;obtain ⟨t,rfl⟩:=rx;obtain ⟨t',rfl⟩:=ry;exact rule i j t t' s _ _ ⟨.bl (g i j),H,I,rfl,q⟩
def CDiv (i j:Int):Prop:=0<j∧j<1073741824
def CPow (i j:Int):Prop:=0≤j∧j≤1000000∧i.natAbs<2^64
def CMul (i j:Int):Prop:=(-(2^64)<i∧i<2^64)∨(-(2^64)<j∧j<2^64)
theorem CMul.ok {i j:Int}(h:CMul i j):IntMulOk i j:=by
 rcases h with ⟨h1,h2⟩ | ⟨h1,h2⟩
 · exact .of_left (intBits_le_64 h1 h2)
 · exact .of_right (intBits_le_64 h1 h2)
theorem ZeD (k:Nat):(0:Int)≤2^k:=by rw [two_pow_cast];exact Int.natCast_nonneg _
theorem ZaA:OpR X (binaryOp .Add) (rI0 fun i j=>.int (i+j)):=opI0 fun _ _ _ _ _ _ _ q=>add_int q
theorem Zcd:OpR X (binaryOp .Sub) (rI0 fun i j=>.int (i-j)):=opI0 fun _ _ _ _ _ _ _ q=>sub_int q
theorem Zce:OpR X (binaryOp .Mult) (rI CMul fun i j=>.int (i*j)):=opI fun _ _ _ _ _ _ _ hc q=>mul_int q hc.ok
theorem ZaI:OpR X (binaryOp .FloorDiv) (rI CDiv fun i j=>.int (i/j)):=opI fun i j _ _ _ _ _ hc q=>by
 have h1:(0:Int)<j:=hc.1;have h2:j<1073741824:=hc.2;exact floordiv_int (by omega) (by rw [Int.fdiv_eq_ediv_of_nonneg i (by omega)];exact q) (.inl (PyProof.noPylong_small (by omega)))
theorem ZaD:OpR X (binaryOp .Mod) (rI (fun _ j=>0<j) fun i j=>.int (i%j)):=opI fun i j _ _ _ _ _ hc q=>by
 have h1:(0:Int)<j:=hc;exact mod_int' (by omega) (by rw [Int.fmod_eq_emod_of_nonneg i (by omega)];exact q)
theorem Zgq:OpR X (binaryOp .RShift) (rI (fun _ j=>0≤j) fun i j=>.int (i/2^j.toNat)):=opI fun i j _ _ _ _ _ hc q =>
 rshift_int hc (by rw [Int.fdiv_eq_ediv_of_nonneg i (ZeD _)];exact q)
theorem Zbc:OpR X (binaryOp .BitAnd) (rI0 fun i j=>.int (Builtin.bitAnd i j)):=opI0 fun _ _ _ _ _ _ _ q=>and_int q
theorem op_or:OpR X (binaryOp .BitOr) (rI0 fun i j=>.int (Builtin.bitOr i j)):=opI0 fun _ _ _ _ _ _ _ q=>or_int q
theorem op_xor:OpR X (binaryOp .BitXor) (rI0 fun i j=>.int (Builtin.bitXor i j)):=opI0 fun _ _ _ _ _ _ _ q=>xor_int q
theorem unI {f:Value→Sem Value}{g:Int→Int}
   (rule:∀ (i:Int) (t:Tok) (s:Shared) (Q:Value→Shared→Prop) (E:Value→Shared→Prop),Q (.int (g i) s.toks) { s with toks:=s.toks+1 }→wpAny (model X.prog X.w) X.A (f (.int i t)) Q E s) :
   UnR X f (rU fun i=>.int (g i)):=by
 intro pins s σ H x v Q I rx h;obtain ⟨i,rfl,q⟩:=h;obtain ⟨t,rfl⟩:=rx;exact rule i t s _ _ ⟨.int (g i),H,I.tok _,⟨_,rfl⟩,q⟩
theorem un_neg:UnR X (unaryOp .USub) (rU fun i=>.int (-i)):=unI fun _ _ _ _ _ q=>neg_int q
theorem un_inv:UnR X (unaryOp .Invert) (rU fun i=>.int (Builtin.bitNot i)):=unI fun _ _ _ _ _ q=>invert_int q
end
def scal:V→V→Bool
 | .non,.non=>true | .non,.int _=>true | .int _,.non=>true | .non,.bl _=>true | .bl _,.non=>true | .non,.str _=>true | .str _,.non=>true
 | .int _,.int _=>true | .bl _,.bl _=>true | .str _,.str _=>true | .byt _,.byt _=>true
 | .int _,.str _=>true | .str _,.int _=>true | .bl _,.str _=>true | .str _,.bl _=>true
 | _,_=>false
def rEq:R2:=fun x y H Q=>scal x y=true∧Q (.bl (decide (x=y))) H
def rNe:R2:=fun x y H Q=>scal x y=true∧Q (.bl (!decide (x=y))) H
theorem ZiP {i j:Int}:decide (V.int i=V.int j)=(i==j):=by rw [Bool.eq_iff_iff];simp
theorem dec_bl {i j:Bool}:decide (V.bl i=V.bl j)=(i==j):=by rw [Bool.eq_iff_iff];simp
theorem ZiR {i j:Str}:decide (V.str i=V.str j)=(i==j):=by rw [Bool.eq_iff_iff];simp
theorem Zjp {i j:Array UInt8}:decide (V.byt i=V.byt j)=(i.toList==j.toList):=by rw [Bool.eq_iff_iff];cases i;cases j;simp
section
variable {X:Cx}{a b c:Expr}{ta tb tc:TE}{pos:Pos}
theorem Zav {pins:List (Addr × Obj)}{σ:St}{H:Hp}{s:Shared}{Q:VK}{k k':Bool}(I:Inv X pins σ H s)(q:Q (.bl k) H)(e:k=k'):EP X pins σ Q (.bool k') s:=by subst e;exact ⟨.bl k,H,I,rfl,q⟩
theorem ZbO:OpR X (compareOp .Eq) rEq:=by
 intro pins s σ H x y v u Q I rx ry h;obtain ⟨hs,q⟩:=h;cases x with
 | non =>
   cases rx;cases y with
   | non=>cases ry;exact PySem.EqNone.eq_none_none (Zav I q (by simp))
   | bl j=>cases ry;exact PySem.EqNone.eq_none_bool (Zav I q (by simp))
   | int j=>obtain ⟨t',rfl⟩:=ry;exact PySem.EqNone.eq_none_int (Zav I q (by simp))
   | str j=>obtain ⟨t',rfl⟩:=ry;exact PySem.EqNone.eq_none_str (Zav I q (by simp))
   | _=>exact absurd (show false=true from hs) Bool.false_ne_true
 | bl i =>
   cases rx;cases y with
   | non=>cases ry;exact PySem.EqNone.eq_bool_none (Zav I q (by simp))
   | bl j=>cases ry;exact eq_bool (Zav I q dec_bl)
   | str j=>obtain ⟨t',rfl⟩:=ry;exact PySem.EqMixed.eq_bool_str (Zav I q (by simp))
   | _=>exact absurd (show false=true from hs) Bool.false_ne_true
 | int i =>
   obtain ⟨t,rfl⟩:=rx;cases y with
   | non=>cases ry;exact PySem.EqNone.eq_int_none (Zav I q (by simp))
   | int j=>obtain ⟨t',rfl⟩:=ry;exact eq_int (Zav I q ZiP)
   | str j=>obtain ⟨t',rfl⟩:=ry;exact PySem.EqMixed.eq_int_str (Zav I q (by simp))
   | _=>exact absurd (show false=true from hs) Bool.false_ne_true
 | str i =>
   obtain ⟨t,rfl⟩:=rx;cases y with
   | non=>cases ry;exact PySem.EqNone.eq_str_none (Zav I q (by simp))
   | bl j=>cases ry;exact PySem.EqMixed.eq_str_bool (Zav I q (by simp))
   | int j=>obtain ⟨t',rfl⟩:=ry;exact PySem.EqMixed.eq_str_int (Zav I q (by simp))
   | str j=>obtain ⟨t',rfl⟩:=ry;exact eq_str (Zav I q ZiR)
   | _=>exact absurd (show false=true from hs) Bool.false_ne_true
 | byt i =>
   obtain ⟨t,rfl⟩:=rx;cases y with
   | byt j=>obtain ⟨t',rfl⟩:=ry;exact PySem.W.eq_bytes (Zav I q Zjp)
   | _=>exact absurd (show false=true from hs) Bool.false_ne_true
 | _=>cases y<;>exact absurd (show false=true from hs) Bool.false_ne_true
theorem op_ne:OpR X (compareOp .NotEq) rNe:=by
 intro pins s σ H x y v u Q I rx ry h;obtain ⟨hs,q⟩:=h;cases x with
 | non =>
   cases rx;cases y with
   | non=>cases ry;exact PySem.EqNone.ne_none_none (Zav I q (by simp))
   | bl j=>cases ry;exact PySem.EqNone.ne_none_bool (Zav I q (by simp))
   | int j=>obtain ⟨t',rfl⟩:=ry;exact PySem.EqNone.ne_none_int (Zav I q (by simp))
   | str j=>obtain ⟨t',rfl⟩:=ry;exact PySem.EqNone.ne_none_str (Zav I q (by simp))
   | _=>exact absurd (show false=true from hs) Bool.false_ne_true
 | bl i =>
   cases rx;cases y with
   | non=>cases ry;exact PySem.EqNone.ne_bool_none (Zav I q (by simp))
   | bl j=>cases ry;exact ne_bool (Zav I q (congrArg not dec_bl))
   | str j=>obtain ⟨t',rfl⟩:=ry;exact PySem.EqMixed.ne_bool_str (Zav I q (by simp))
   | _=>exact absurd (show false=true from hs) Bool.false_ne_true
 | int i =>
   obtain ⟨t,rfl⟩:=rx;cases y with
   | non=>cases ry;exact PySem.EqNone.ne_int_none (Zav I q (by simp))
   | int j=>obtain ⟨t',rfl⟩:=ry;exact ne_int (Zav I q (congrArg not ZiP))
   | str j=>obtain ⟨t',rfl⟩:=ry;exact PySem.EqMixed.ne_int_str (Zav I q (by simp))
   | _=>exact absurd (show false=true from hs) Bool.false_ne_true
 | str i =>
   obtain ⟨t,rfl⟩:=rx;cases y with
   | non=>cases ry;exact PySem.EqNone.ne_str_none (Zav I q (by simp))
   | bl j=>cases ry;exact PySem.EqMixed.ne_str_bool (Zav I q (by simp))
   | int j=>obtain ⟨t',rfl⟩:=ry;exact PySem.EqMixed.ne_str_int (Zav I q (by simp))
   | str j=>obtain ⟨t',rfl⟩:=ry;exact ne_str (Zav I q (congrArg not ZiR))
   | _=>exact absurd (show false=true from hs) Bool.false_ne_true
 | byt i =>
   obtain ⟨t,rfl⟩:=rx;cases y with
   | byt j=>obtain ⟨t',rfl⟩:=ry;exact PySem.W.ne_bytes (Zav I q (congrArg not Zjp))
   | _=>exact absurd (show false=true from hs) Bool.false_ne_true
 | _=>cases y<;>exact absurd (show false=true from hs) Bool.false_ne_true
theorem ZfM:OpR X (compareOp .Lt) (rI0 fun i j=>.bl (decide (i<j))):=opB0 fun _ _ _ _ _ _ _ q=>lt_int q
theorem ZhK:OpR X (compareOp .LtE) (rI0 fun i j=>.bl (decide (i≤j))):=opB0 fun _ _ _ _ _ _ _ q=>le_int q
theorem op_gt:OpR X (compareOp .Gt) (rI0 fun i j=>.bl (decide (j<i))):=opB0 fun _ _ _ _ _ _ _ q=>gt_int q
theorem Zh7:OpR X (compareOp .Is) (fun x y H Q=>y=.non∧Q (.bl (decide (x=.non))) H):=by
 intro pins s σ H x y v u Q I rx ry h;obtain ⟨rfl,q⟩:=h;cases ry;refine is_none_gen (Zav I q ?_);cases x<;>first
   | (cases rx;rfl)
   | (obtain ⟨t,rfl⟩:=rx;rfl)
theorem op_notN:OpR X (compareOp .IsNot) (fun x y H Q=>y=.non∧Q (.bl (!decide (x=.non))) H):=by
 intro pins s σ H x y v u Q I rx ry h;obtain ⟨rfl,q⟩:=h;cases ry;refine isnot_none_gen (Zav I q ?_);cases x<;>first
   | (cases rx;rfl)
   | (obtain ⟨t,rfl⟩:=rx;rfl)
theorem nomark (b:Expr){op:CmpOp}(h:op≠.In:=by decide)(h2:op≠.NotIn:=by decide):behindInMarks op b=false:=by
 have e1:(op==CmpOp.In)=false:=by cases op<;>first | rfl | exact absurd rfl h
 have e2:(op==CmpOp.NotIn)=false:=by cases op<;>first | rfl | exact absurd rfl h2
 cases b<;>simp [behindInMarks,e1,e2]
theorem Zbs {op:CmpOp}{r:R2}(ho:OpR X (compareOp op) r)(ha:PE X a ta)(hb:PE X b tb)(hm:behindInMarks op b=false):PE X (.Compare a [op] [b] pos) (tOp r ta tb):=by intro pins s σ H Q I h;exact wpAny_Compare1 (binT ha hb I h fun v u s2 x y H2 I2 rx ry q=>ho pins s2 σ H2 x y v u Q I2 rx ry q) hm
def tTest (t:TE):TT:=fun σ H Q=>t σ H fun x H'=>∃ k,x=.bl k∧Q k H'
theorem Zat {op:CmpOp}{r:R2}(ho:OpR X (compareOp op) r)(ha:PE X a ta)(hb:PE X b tb)(hm:behindInMarks op b=false):PT X (.Compare a [op] [b] pos) (tTest (tOp r ta tb)):=by
 intro pins s σ H Q I h;refine wpAny_isTrue_Compare1 (thn (ha pins s σ H _ I h) fun v s1 ⟨x,H1,I1,r1,q1⟩=>thn (hb pins s1 σ H1 _ I1 q1) fun u s2 ⟨y,H2,I2,r2,q2⟩ =>
   thn (ho pins s2 σ H2 x y v u _ I2 r1 r2 q2) fun c s3 ⟨z,H3,I3,r3,k,e,q3⟩=>?_) hm
 subst e;cases r3;exact wpAny_truthy_bool ⟨H3,I3,q3⟩
def tChain (r r':R2)(ta tb tc:TE):TE:=fun σ H Q=>ta σ H fun x H1=>tb σ H1 fun y H2=>r x y H2 fun z H3=>∃ k,z=.bl k ∧
 (if k=true then tc σ H3 fun w' H4=>r' y w' H4 Q else Q (.bl false) H3)
theorem pt_chain {op op':CmpOp}{r r':R2}(ho:OpR X (compareOp op) r)(ho':OpR X (compareOp op') r')(ha:PE X a ta)(hb:PE X b tb)(hc:PE X c tc)
   (hm:lastMarks [op,op'] [b,c]=false:=by with_unfolding_all rfl):PT X (.Compare a [op,op'] [b,c] pos) (tTest (tChain r r' ta tb tc)):=by
 intro pins s σ H Q I h;refine isTrue_chain (thn (ha pins s σ H _ I h) fun v s1 ⟨x,H1,I1,r1,q1⟩=>test_link (thn (hb pins s1 σ H1 _ I1 q1) fun u s2 ⟨y,H2,I2,r2,q2⟩ =>
   thn (ho pins s2 σ H2 x y v u _ I2 r1 r2 q2) fun d s3 ⟨z,H3,I3,r3,k,e,q3⟩=>?_)) hm
 subst e;cases r3;refine wpAny_truthy_bool ?_;cases k with
 | false =>
   obtain ⟨k',e',q'⟩:=q3;cases e';exact ite_ff ⟨H3,I3,q'⟩
 | true =>
   refine ite_tt (test_last (thn (hc pins s3 σ H3 _ I3 q3) fun w' s4 ⟨z',H4,I4,r4,q4⟩=>thn (ho' pins s4 σ H4 y z' u w' _ I4 r2 r4 q4) fun d' s5 ⟨z2,H5,I5,r5,k2,e2,q5⟩=>?_));subst e2;cases r5;exact wpAny_truthy_bool ⟨H5,I5,q5⟩
theorem line63:(sizeLine:Nat)<2^63:=by rw [sizeLine_eq];decide
theorem vals1 {x:V}{us:List Value}(r:Vals [x] us):∃ u,us=[u]∧RelV x u:=by
 cases r with
 | cons r1 r2=>cases r2;exact ⟨_,rfl,r1⟩
end
end L2
namespace L2
open PySem PySem.Spec PyProof.Rows
structure ObjM (h:Heap)(x dx C:Addr)(mA:Str→Option Value):Prop where
 obj:h.get? x=some (PySem.W.instObj C dx)
 ns:h.Ns1 dx mA
 ne:dx≠x
theorem ZjB {h:Heap}{dx:Addr}{mA:Str→Option Value}(n:h.Ns1 dx mA):∃ od,h.get? dx=some od∧∀ name,PySem.W.lookIn name od=some (mA name):=by
 obtain ⟨o,es,ep,ho,hd,hk,_,hm⟩:=n;refine ⟨o,ho,fun name=>?_⟩;have e:=hm name;unfold nsFind findBy at e;rw [← Array.find?_toList] at e;unfold PySem.W.lookIn;rw [hd];dsimp only;split
 · rename_i y q
   rw [q] at e;exact congrArg some e
 · rename_i q
   rw [q] at e;have a:es.toList.any (·.refKey)=false:=by rw [List.any_eq_false];intro y hy;obtain ⟨z,t,hkey⟩:=hk y (Array.mem_toList_iff.mp hy);simp [DictEntry.refKey,hkey]
   have a':¬ es.toList.any (·.refKey)=true:=by rw [a];exact Bool.false_ne_true
   rw [if_neg a'];exact congrArg some e
theorem ObjM.look {h:Heap}{x dx C:Addr}{mA:Str→Option Value}(I:ObjM h x dx C mA):∃ od,PySem.W.InstAt h x (PySem.W.instObj C dx) C (some od)∧∀ name,PySem.W.lookIn name od=some (mA name) :=
 let ⟨od,ho,hl⟩:=ZjB I.ns
 ⟨od,⟨I.obj,rfl,rfl,ho⟩,hl⟩
section
variable {prog:Program}{w:World}{A:Around}{E:Value→Shared→Prop}{s:Shared}{K:PySem.W.Frag}{x dx C f:Addr}{mA:Str→Option Value}{name:Str}{v:Value}
theorem get_map {expr:Bool}{Q:Value→Shared→Prop}(X:K.In s.heap)(I:ObjM s.heap x dx C mA)(hg:PySem.W.plainGet K C name=true)(hh:PySem.W.hasDictIn K C=true)
   (ha:PySem.W.findIn K (.ref C) name=some none) (hv:mA name=some v) (hv':PySem.W.handedIn v=true) (h:Q v { s with toks:=s.toks+1 }) :
   wpAny (model prog w) A (getAttr (.ref x) name expr) Q E s:=by
 obtain ⟨od,J,hl⟩:=I.look;exact PySem.W.get_value X J (PySem.W.plainGet_of hg).1 (PySem.W.findObj_own hh ha rfl (by rw [hl,hv])) hv' h
theorem get_meth {pl:Sem Bool}{Q:Value × List Value→Shared→Prop}(X:K.In s.heap)(I:ObjM s.heap x dx C mA)(hg:PySem.W.plainGet K C name=true)
   (hf:PySem.W.findIn K (.ref C) name=some (some (.ref f))) (ht:PySem.W.isFn K (.ref f)=true) (hv:mA name=none) (h:Q (.ref f,[.ref x]) s) :
   wpAny (model prog w) A (getMethod (.ref x) name pl) Q E s:=by
 obtain ⟨od,J,hl⟩:=I.look;exact PySem.W.method_fn X J (PySem.W.plainGet_of hg).1 (PySem.W.plainGet_of hg).2 hf (beq_iff_eq.mp ht) (by show (PySem.W.lookIn name od).map (·.isSome)=some false;rw [hl,hv];rfl) h
theorem set_map {ns:List Str}{Q:Unit→Shared→Prop}(X:K.In s.heap)(I:ObjM s.heap x dx C mA)
   (hs:PySem.W.findIn K (.ref C) "__setattr__"=some (some (.builtin "object.__setattr__"))) (hp:PySem.W.plainOver K C=true) (ht:PySem.W.takerIn K C name=some none) (hh:PySem.W.hasDictIn K C=true)
   (hw:PySem.Within mA ns) (hsz:ns.length≤sizeLine)
   (h:∀ h',ObjM h' x dx C (fun y=>if y=name then some v else mA y)→Heap.SameBut dx s.heap h'→Q () { s with heap:=h',toks:=s.toks+2 }) :
   wpAny (model prog w) A (setAttr (.ref x) name v) Q E s:=by
 obtain ⟨od,J,hl⟩:=I.look;refine PySem.W.set_plain X J hs (PySem.W.osa_open (s:={ s with toks:=s.toks+1 }) (r:=none) X J hp ht fun b=>?_);obtain ⟨cd,hc,hd'⟩:=PySem.W.any_some hh;have hx:s.heap.get? x=some ⟨.ref C,some dx,.plain,#[]⟩:=I.obj;refine wpAny_bind (wpAny_pure (wpAny_bind (wpAny_bind (wpAny_loadPart hx (wpAny_bind (PySem.W.Looks.here (s:={ s with toks:=s.toks+1 }) (PySem.W.looks_clsIn X hc) ?_))))));rw [hd'];refine wpAny_pure (a:=some dx) (wpAny_bind (wpAny_pure (wpAny_bind ?_)));refine wpAny_nsSet1 (s:={ s with toks:=s.toks+1 }) I.ns fun h' hn2 hs2=>?_
 obtain ⟨oD,esD,epD,hoD,hdD,hcD⟩:=hn2.count (PySem.Within.cons name v hw);refine wpAny_bind (wpAny_lookBehind hoD (by rw [hdD];exact pastItsLine_dict (Nat.le_trans hcD (by rw [List.length_cons];omega))) ?_);exact wpAny_pure (h _ ⟨(hs2.2 _ (Ne.symm I.ne)).trans I.obj,hn2,I.ne⟩ hs2)
theorem make_map {R:Result→Shared→Prop}{vs:List Value}{kw:List (Str × Value)}(X:K.In s.heap)(hm:PySem.W.makesIn K C=true)
   (hi:PySem.W.findIn K (.ref C) "__init__"=some (some (.ref f))) (hf:PySem.W.typeIn K (.ref f)=some (.type "function"))
   (h:codeAny (model prog w) (A.under (.builtin "type.__call__" ⟨.ref C::vs,kw⟩)) (.call (.ref f) ⟨.ref (s.heap.objs.size+1)::vs,kw⟩) (PySem.W.InitBack (s.heap.objs.size+1) R)
     { s with heap:=(s.heap.push PySem.W.emptyDict).push (PySem.W.instObj C s.heap.objs.size) }) :
   codeAny (model prog w) A (.call (.ref C) ⟨vs,kw⟩) R s:=by
 obtain ⟨hh,g,d,t,os⟩:=s;exact PySem.W.make_core (PySem.W.makes_of X hm) (PySem.W.looks_findIn X hi) (fun self=>PySem.W.bind_fn X self hf) (.inl rfl) h
end
def putF (f:Str)(v:V):List (Str × V)→List (Str × V)
 | []=>[(f,v)]
 | (g,x)::r=>if g=f then (g,v)::r else (g,x)::putF f v r
theorem ZdV (f g:Str) (v:V):∀ fs:List (Str × V),(putF f v fs).lookup g=if g=f then some v else fs.lookup g
 | []=>by
   show List.lookup g [(f,v)]=_;by_cases h:g=f
   · have hb:(g==f)=true:=beq_iff_eq.mpr h
     simp only [List.lookup,hb,if_pos h]
   · have hb:(g==f)=false:=beq_eq_false_iff_ne.mpr h
     simp only [List.lookup,hb,if_neg h]
 | (k, x)::r=>by
   have ih:=ZdV f g v r;rw [show putF f v ((k,x)::r)=(if k=f then (k,v)::r else (k,x)::putF f v r) from rfl];by_cases hk:k=f
   · rw [if_pos hk]
     by_cases h:g=k
     · have hb:(g==k)=true:=beq_iff_eq.mpr h
       simp only [List.lookup,hb,if_pos (h.trans hk)]
     · have hb:(g==k)=false:=beq_eq_false_iff_ne.mpr h
       simp only [List.lookup,hb,if_neg (fun e:g=f=>h (e.trans hk.symm))]
   · rw [if_neg hk]
     by_cases h:g=k
     · have hb:(g==k)=true:=beq_iff_eq.mpr h
       simp only [List.lookup,hb,if_neg (fun e:g=f=>hk (h.symm.trans e))]
     · have hb:(g==k)=false:=beq_eq_false_iff_ne.mpr h
       simp only [List.lookup,hb];exact ih
theorem ZdE (f:Str) (v:V):∀ fs:List (Str × V),f∈(putF f v fs).map (·.1)∧∀ g,g∈fs.map (·.1)→g∈(putF f v fs).map (·.1)
 | []=>⟨by simp [putF],fun g h=>by simp at h⟩
 | (k, x)::r=>by
   obtain ⟨i1,i2⟩:=ZdE f v r;rw [show putF f v ((k,x)::r)=(if k=f then (k,v)::r else (k,x)::putF f v r) from rfl];by_cases hk:k=f
   · rw [if_pos hk]
     subst hk;exact ⟨by simp,fun g h=>by simpa using h⟩
   · rw [if_neg hk]
     refine ⟨?_,fun g h=>?_⟩
     · rw [List.map_cons]
       exact List.mem_cons_of_mem _ i1
     · rw [List.map_cons] at h ⊢
       rcases List.mem_cons.mp h with e | e
       · exact List.mem_cons.mpr (.inl e)
       · exact List.mem_cons_of_mem _ (i2 g e)
theorem ZdT (f:Str)(v:V):∀ fs:List (Str × V),(putF f v fs).length≤fs.length+1
 | []=>by simp [putF]
 | (k,x)::r=>by
   have ih:=ZdT f v r;rw [show putF f v ((k,x)::r)=(if k=f then (k,v)::r else (k,x)::putF f v r) from rfl];by_cases hk:k=f
   · rw [if_pos hk,List.length_cons,List.length_cons];omega
   · rw [if_neg hk,List.length_cons,List.length_cons];omega
theorem RelO.some_of {v:V}{o:Option Value}(r:RelO (some v) o):∃ u,o=some u∧RelV v u:=by
 cases o with
 | none=>exact (show False from r).elim
 | some u=>exact ⟨u,rfl,r⟩
theorem RelO.none_of {o:Option Value}(r:RelO none o):o=none:=by
 cases o with
 | none=>rfl
 | some u=>exact (show False from r).elim
theorem Zkm {v:V}{u:Value}(r:RelV v u):PySem.W.handedIn u=true:=by
 cases v with
 | non=>cases (show u=Value.none from r);rfl
 | bl b=>cases (show u=Value.bool b from r);rfl
 | int i=>obtain ⟨t,e⟩:=(show ∃ t,u=Value.int i t from r);cases e;rfl
 | str x=>obtain ⟨t,e⟩:=(show ∃ t,u=Value.str x t from r);cases e;rfl
 | byt b=>obtain ⟨t,e⟩:=(show ∃ t,u=Value.bytes b t from r);cases e;rfl
 | flt b=>obtain ⟨t,e⟩:=(show ∃ t,u=Value.float b t from r);cases e;rfl
 | ref a=>cases (show u=Value.ref a from r);rfl
 | ty n=>cases (show u=Value.type n from r);rfl
section
variable {P:Program}{w:World}{H H':Hp}{h h':Heap}{a C dx:Addr}{fs fs':List (Str × V)}
theorem Zek (hok:HOk P w H h)(e:H a=some (.ins C dx fs)):∃ mA,ObjM h a dx C mA∧(∀ f,RelO (fs.lookup f) (mA f))∧PySem.Within mA (fs.map (·.1))∧fs.length≤1000∧H dx=some (.own a):=by
 obtain ⟨d,z,ne,ob,mA,n,r,q⟩:=(show ObjOk P w H h a (.ins C dx fs) from hok a _ e)
 exact ⟨mA,⟨ob,n,ne⟩,r,q,z,d⟩
end
structure Cls (K:PySem.W.Frag)(C:Addr):Prop where
 pg:PySem.W.plainGet K C Str.empty=true
 hd:PySem.W.hasDictIn K C=true
 po:PySem.W.plainOver K C=true
 sa:PySem.W.findIn K (.ref C) "__setattr__"=some (some (.builtin "object.__setattr__"))
theorem Cls.get {K:PySem.W.Frag}{C:Addr}(c:Cls K C)(f:Str):PySem.W.plainGet K C f=true:=c.pg
def NoAttr (K:PySem.W.Frag)(C:Addr)(f:Str):Prop:=PySem.W.findIn K (.ref C) f=some none
theorem NoAttr.taker {K:PySem.W.Frag}{C:Addr}{f:Str}(n:NoAttr K C f):PySem.W.takerIn K C f=some none:=by unfold PySem.W.takerIn;rw [show PySem.W.findIn K (.ref C) f=some none from n];rfl
structure Con (K:PySem.W.Frag)(C:Addr)(f:Str)(v:V)(u:Value):Prop where
 at_:PySem.W.findIn K (.ref C) f=some (some u)
 rel:RelV v u
 get:PySem.W.specialIn K u "__get__"=some none
 cp:PySem.W.copiedNames.contains f=false
structure Meth (K:PySem.W.Frag)(C:Addr)(m:Str)(f:Addr):Prop where
 at_:PySem.W.findIn K (.ref C) m=some (some (.ref f))
 fn:PySem.W.isFn K (.ref f)=true
 kp:PySem.W.keepIn K (.ref f)=true
section
variable {X:Cx}{pins:List (Addr × Obj)}{σ:St}{H:Hp}{s:Shared}{a C dx:Addr}{fs:List (Str × V)}{f:Str}{v:V}{A:Around}{E:Value→Shared→Prop}
theorem Zid {b:Bool}{Q:Value→Shared→Prop}(I:Inv X pins σ H s)(e:H a=some (.ins C dx fs))(c:Cls X.K C)(n:NoAttr X.K C f)(l:fs.lookup f=some v)
   (h:∀ u s',Inv X pins σ H s'→RelV v u→Q u s'):wpAny (model X.prog X.w) A (getAttr (.ref a) f b) Q E s:=by
 obtain ⟨mA,O,r,_,_,_⟩:=Zek I.hok e;obtain ⟨u,hu,ru⟩:=RelO.some_of (v:=v) (o:=mA f) (by rw [← l];exact r f);exact get_map I.kIn O (c.get f) c.hd n hu (Zkm ru) (h u _ (I.tok _) ru)
theorem ZeL {m:Str}{g:Addr}{pl:Sem Bool}{Q:Value × List Value→Shared→Prop}(I:Inv X pins σ H s)(e:H a=some (.ins C dx fs))(c:Cls X.K C)(k:Meth X.K C m g)(l:fs.lookup m=none)
   (h:Q (.ref g,[.ref a]) s):wpAny (model X.prog X.w) A (getMethod (.ref a) m pl) Q E s:=by
 obtain ⟨mA,O,r,_,_,_⟩:=Zek I.hok e;have hn:mA m=none:=RelO.none_of (by rw [← l];exact r m);exact get_meth I.kIn O (c.get m) k.at_ k.fn hn h
theorem Ziy {y:V}{u:Value}{Q:Unit→Shared→Prop}(I:Inv X pins σ H s)(e:H a=some (.ins C dx fs))(c:Cls X.K C)(n:NoAttr X.K C f)(hl:fs.length<1000)(ry:RelV y u)
   (h:∀ s',Inv X pins σ (upd H a (.ins C dx (putF f y fs))) s'→Q () s'):wpAny (model X.prog X.w) A (setAttr (.ref a) f u) Q E s:=by
 obtain ⟨mA,O,r,wi,_,ho⟩:=Zek I.hok e;have hz:(fs.map (·.1)).length≤sizeLine:=by rw [List.length_map,sizeLine_eq];omega
 refine set_map I.kIn O c.sa c.po n.taker c.hd wi hz fun h' O' sb=>h _ ?_
 have hd:∃ o,h'.get? dx=some o:=let ⟨o,_,_,e',_⟩:=O'.ns;⟨o,e'⟩
 refine I.write (x:=a) (e:=dx) (by rw [e];exact True.intro) (.inr ho) (fun b q hb z=>(sb.2 b hb).trans z) hd ?_;refine ⟨by rw [Zag O.ne];exact ho,?_,O.ne,O'.obj,_,O'.ns,fun g=>?_,fun g hg=>?_⟩
 · have:=ZdT f y fs;omega
 · show RelO ((putF f y fs).lookup g) (if g=f then some u else mA g)
   rw [ZdV];by_cases q:g=f
   · rw [if_pos q,if_pos q];exact ry
   · rw [if_neg q,if_neg q];exact r g
 · by_cases q:g=f
   · rw [q];exact (ZdE f y fs).1
   · refine (ZdE f y fs).2 g (wi g fun z=>hg ?_)
     show (if g=f then some u else mA g)=none;rw [if_neg q];exact z
theorem Inv.made (I:Inv X pins σ H s):Inv X pins σ (upd (upd H s.heap.objs.size (.own (s.heap.objs.size+1))) (s.heap.objs.size+1) (.ins C s.heap.objs.size []))
   { s with heap:=(s.heap.push PySem.W.emptyDict).push (PySem.W.instObj C s.heap.objs.size) }:=by
 have e1:(s.heap.push PySem.W.emptyDict).get? s.heap.objs.size=some PySem.W.emptyDict:=Heap.get?_push_size s.heap rfl;have e2:((s.heap.push PySem.W.emptyDict).push (PySem.W.instObj C s.heap.objs.size)).get? (s.heap.objs.size+1)=some (PySem.W.instObj C s.heap.objs.size):=by
   have:=Heap.get?_push_size (s.heap.push PySem.W.emptyDict) (o:=PySem.W.instObj C s.heap.objs.size) rfl
   rwa [Heap.size_push] at this
 have e3:(s.heap.push PySem.W.emptyDict).Ns s.heap.objs.size (fun _=>none):=⟨PySem.W.emptyDict,#[],_,e1,rfl,(fun e he=>absurd he (by simp)),fun _=>rfl⟩
 have I1:=I.laid (a:=s.heap.objs.size) (o:=.own (s.heap.objs.size+1)) (h':=s.heap.push PySem.W.emptyDict) (t':=s.toks) (fun b u q=>Heap.get?_push_of_some _ q) (Nat.le_refl _) ⟨_,e1⟩;refine I1.laid (a:=s.heap.objs.size+1) (o:=.ins C s.heap.objs.size []) (t':=s.toks) (fun b u q=>Heap.get?_push_of_some _ q) (Nat.le_of_eq (Heap.size_push _ _)) ?_;have ne:s.heap.objs.size≠s.heap.objs.size+1:=Nat.ne_of_lt (Nat.lt_succ_self _);refine ⟨by rw [Zag ne,Zac],Nat.zero_le _,ne,e2,fun _=>none,(Heap.Ns1.of_empty e3).at fun o q=>Heap.get?_push_of_some _ q,fun _=>True.intro,fun y hy=>absurd rfl hy⟩
theorem attr_of {prog:Program}{w:World}{env:Env}{e:Expr}{f:Str}{pos:Pos}{s:Shared}{Q:Value→Shared→Prop}(hb:attributeBase e f env (eval e env)=eval e env)
   (h:wpAny (model prog w) A (eval e env) (fun o s₁=>wpAny (model prog w) A (getAttr o f true) Q E s₁) E s):wpAny (model prog w) A (eval (.Attribute e f pos) env) Q E s :=
 Attribute_any_ h (by rw [arm_eval_Attribute,hb])
end
def tFld (K:PySem.W.Frag)(ta:TE)(f:Str):TE:=fun σ H Q=>ta σ H fun x H1=>∃ a C dx fs v,x=.ref a∧H1 a=some (.ins C dx fs)∧Cls K C∧NoAttr K C f∧fs.lookup f=some v∧Q v H1
def sFld (K:PySem.W.Frag)(ta tv:TE)(f:Str):TS:=fun D σ H=>tv σ H fun y H1=>ta σ H1 fun x H2=>∃ a C dx fs,x=.ref a∧H2 a=some (.ins C dx fs)∧Cls K C∧NoAttr K C f∧fs.length<1000 ∧
 D.nx σ (upd H2 a (.ins C dx (putF f y fs)))
section
variable {X:Cx}{o e value:Expr}{f:Str}{pos pos' tpos:Pos}{ta tv:TE}
theorem pe_fld (he:PE X e ta)(hb:attributeBase e f X.env (eval e X.env)=eval e X.env):PE X (.Attribute e f pos) (tFld X.K ta f):=by intro pins s σ H Q I h;refine attr_of hb (thn (he pins s σ H _ I h) fun u s1 ⟨x,H1,I1,rx,a,C,dx,fs,v,ex,ea,c,n,l,q⟩=>?_);subst ex;obtain rfl:u=Value.ref a:=rx;exact Zid I1 ea c n l fun u' s2 I2 ru=>⟨v,H1,I2,ru,q⟩
theorem ps_fld (ha:PE X o ta)(hv:PE X value tv)(hs:swapsWith value (some (.Attribute o f pos')) pos.line X.env=pure false):PS X (.Assign [.Attribute o f pos'] value pos) (sFld X.K ta tv f):=by intro pins s σ H D I h;refine plainObj_wpAny_Assign_Attribute (thn (hv pins s σ H _ I h) fun u s1 ⟨y,H1,I1,ry,q⟩=>thn (ha pins s1 σ H1 _ I1 q) fun ov s2 ⟨x,H2,I2,rx,a,C,dx,fs,ex,ea,c,n,l,q2⟩=>?_) hs;subst ex;obtain rfl:ov=Value.ref a:=rx;exact Ziy I2 ea c n l ry fun s3 I3=>⟨σ,_,I3,q2⟩
end
section
variable {X:Cx}{pins:List (Addr × Obj)}{σ:St}{H:Hp}{s:Shared}{A:Around}{E:Value→Shared→Prop}{Q:Value→Shared→Prop}{c:Value}{b:Bool}
inductive TyOf (K:PySem.W.Frag) (H:Hp):V→Value→Prop where
 | non:TyOf K H .non (.type "NoneType")
 | bl (x:Bool):TyOf K H (.bl x) (.type "bool")
 | int (i:Int):TyOf K H (.int i) (.type "int")
 | str (x:Str):TyOf K H (.str x) (.type "str")
 | flt (x:UInt64):TyOf K H (.flt x) (.type "float")
 | lst {a:Addr} {xs:List V} (e:H a=some (.lst xs)):TyOf K H (.ref a) (.type "list")
 | frz {a:Addr} {o:Obj} {xs:List V} (e:H a=some (.frz o (.lst xs))):TyOf K H (.ref a) (.type "list")
 | tup {a:Addr} {xs:List V} (e:H a=some (.tup xs)):TyOf K H (.ref a) (.type "tuple")
 | dK {a:Addr} {kvs:List (Key × V)} (e:H a=some (.dK kvs)):TyOf K H (.ref a) (.type "dict")
 | dT {a:Addr} {kvs:List (List Key × V)} (e:H a=some (.dT kvs)):TyOf K H (.ref a) (.type "dict")
 | ins {a C dx:Addr} {fs:List (Str × V)} (e:H a=some (.ins C dx fs)) (cl:Cls K C) (ha:PySem.W.findIn K (.ref C) "__class__"=some (some (.builtin "object.__class__")))
     (hn:PySem.W.specialIn K (.builtin "object.__class__") "__get__"=some (some (.builtin "getset_descriptor.__get__"))) (htk:PySem.W.takesIn K (.builtin "object.__class__")=some true)
     (hm:PySem.W.mroIn K C (.type "object")=some true):TyOf K H (.ref a) (.ref C)
theorem Zj1 {x:V}{u t:Value}(I:Inv X pins σ H s)(rx:RelV x u)(ty:TyOf X.K H x t)(e:PySem.W.kitOne X.K t c=some b)(h:∀ tk,Q (.bool b) { s with toks:=tk }) :
   wpAny (model X.prog X.w) A (call (.builtin "isinstance") [u,c]) Q E s:=by
 cases ty with
 | non=>cases (show u=Value.none from rx);exact PySem.W.kia_one PySem.W.kitx_none I.kIn True.intro e (fun z=>nomatch z) h
 | bl y=>cases (show u=Value.bool y from rx);exact PySem.W.kia_one PySem.W.kitx_bool I.kIn True.intro e (fun z=>nomatch z) h
 | int i=>obtain ⟨t,q⟩:=(show ∃ t,u=Value.int i t from rx);cases q;exact PySem.W.kia_one PySem.W.kitx_int I.kIn True.intro e (fun z=>nomatch z) h
 | str y=>obtain ⟨t,q⟩:=(show ∃ t,u=Value.str y t from rx);cases q;exact PySem.W.kia_one PySem.W.kitx_str I.kIn True.intro e (fun z=>nomatch z) h
 | flt y=>obtain ⟨t,q⟩:=(show ∃ t,u=Value.float y t from rx);cases q;exact PySem.W.kia_one PySem.W.kitx_float I.kIn True.intro e (fun z=>nomatch z) h
 | @lst a xs ea =>
   cases (show u=Value.ref a from rx);obtain ⟨_,_,n,_,h1⟩:=(show ObjOk X.prog X.w H s.heap a (.lst xs) from I.hok a _ ea)
   exact PySem.W.kia_one PySem.W.kitx_list I.kIn ⟨_,h1,rfl⟩ e (fun z=>nomatch z) h
 | @frz a ob xs ea =>
   cases (show u=Value.ref a from rx);obtain ⟨_,_,_,n,_,h1⟩:=(show ObjOk X.prog X.w H s.heap a (.frz ob (.lst xs)) from I.hok a _ ea)
   exact PySem.W.kia_one PySem.W.kitx_list I.kIn ⟨_,h1,rfl⟩ e (fun z=>nomatch z) h
 | @tup a xs ea =>
   cases (show u=Value.ref a from rx);obtain ⟨_,_,_,p⟩:=(show ObjOk X.prog X.w H s.heap a (.tup xs) from I.hok a _ ea)
   obtain ⟨o,h1,h2,_⟩:=p;exact PySem.W.kia_one PySem.W.kitx_tuple I.kIn ⟨o,h1,h2⟩ e (fun z=>nomatch z) h
 | @dK a kvs ea =>
   cases (show u=Value.ref a from rx);obtain ⟨_,_,vs,_,p⟩:=(show ObjOk X.prog X.w H s.heap a (.dK kvs) from I.hok a _ ea)
   obtain ⟨o,es,ep,h1,h2,_⟩:=p;exact PySem.W.kia_one PySem.W.kitx_dict I.kIn ⟨o,h1,h2.1⟩ e (fun z=>nomatch z) h
 | @dT a kvs ea =>
   cases (show u=Value.ref a from rx);obtain ⟨_,_,xs,_,o,es,ep,h1,h2,_⟩:=(show ObjOk X.prog X.w H s.heap a (.dT kvs) from I.hok a _ ea)
   exact PySem.W.kia_one PySem.W.kitx_dict I.kIn ⟨o,h1,h2.1⟩ e (fun z=>nomatch z) h
 | @ins a C dx fs ea cl ha hn htk hm =>
   cases (show u=Value.ref a from rx);obtain ⟨mA,O,_⟩:=Zek I.hok ea;obtain ⟨od,J,_⟩:=O.look;exact PySem.W.kia_one (PySem.W.kitx_own (cl.get _) cl.hd ha hn htk hm) I.kIn J e (fun z=>nomatch z) h
end
end L2
namespace L2
open PySem PySem.Spec PyProof.Rows
structure Room (k:Nat)(A:Around):Prop where
 hd:A.handled=none
 dp:A.depth+3*k+5<recursionLimit
 un:A.units+16*k+200<cLine
theorem Room.mono {j k:Nat}{A:Around}(r:Room k A)(h:j≤k):Room j A:=⟨r.hd,by have:=r.dp;omega,by have:=r.un;omega⟩
theorem Room.deeper {k:Nat}{A:Around}(r:Room (k+1) A)(env:Env):Room k (A.deeper env) :=
 ⟨r.hd,by have:=r.dp;show A.depth+1+3*k+5<_;omega,by have:=r.un;show A.units+3+16*k+200<_;omega⟩
theorem ZiB {A:Around}{C:Addr}{us:List Value}{kw:List (Str × Value)}:(A.under (.builtin "type.__call__" ⟨.ref C::us,kw⟩)).depth=A.depth+1:=by
 first | rfl | simp [Around.under,Code.weight,Code.isCreation,Code.isGuard,Code.isCaller,Code.frames,Code.isFrame,guardIds]
theorem Zio {A:Around}{C:Addr}{us:List Value}{kw:List (Str × Value)}:(A.under (.builtin "type.__call__" ⟨.ref C::us,kw⟩)).units=A.units+1:=by
 first | rfl | simp [Around.under,Code.cUnits,Code.frames,Code.isFrame]
theorem Room.make {k:Nat}{A:Around}(r:Room (k+1) A)(C:Addr)(us:List Value)(kw:List (Str × Value)):Room k (A.under (.builtin "type.__call__" ⟨.ref C::us,kw⟩)) :=
 ⟨r.hd,by have:=r.dp;rw [ZiB];omega,by have:=r.un;rw [Zio];omega⟩
theorem Room.depth {k:Nat}{A:Around}(r:Room k A):A.depth<recursionLimit:=by have:=r.dp;omega
def tNil:TA:=fun _ H Q=>Q [] H
def tCons (ta:TE)(tr:TA):TA:=fun σ H Q=>ta σ H fun x H1=>tr σ H1 fun xs H2=>Q (x::xs) H2
section
variable {X:Cx}{e:Expr}{es:List Expr}{te:TE}{t:TA}{pos:Pos}
theorem Zab:PA X [] tNil:=fun _ _ _ _ H Q I h=>Calls.spliced_nil ⟨[],H,I,.nil,h⟩
theorem Zaa (ha:PE X e te)(hr:PA X es t)(hs:starEach (e::es) X.env=(false,eval e X.env)::starEach es X.env:=by rfl):PA X (e::es) (tCons te t):=by intro pos pins s σ H Q I h;rw [hs];show wpAny _ _ (spliced ((false,eval e X.env)::backTo pos (starEach es X.env))) _ _ s;refine Calls.spliced_cons (thn (ha pins s σ H _ I h) fun u s1 ⟨x,H1,I1,r1,q1⟩=>?_);exact thn (hr pos pins s1 σ H1 _ I1 q1) fun us s2 ⟨xs,H2,I2,r2,q2⟩=>⟨x::xs,H2,I2,.cons r1 r2,q2⟩
def tTup (t:TA):TE:=fun σ H Q=>t σ H fun xs H1=>xs.length≤sizeLine∧∀ p,H1 p=none→Q (.ref p) (upd H1 p (.tup xs))
def tLst (t:TA):TE:=fun σ H Q=>t σ H fun xs H1=>xs.length≤sizeLine∧∀ p,H1 p=none→Q (.ref p) (upd H1 p (.lst xs))
theorem Zb8 {x1}(h:PA X es t):PE X (.Tuple es x1 pos) (tTup t):=by intro pins s σ H Q I hq;refine wpAny_Tuple_spliced (thn (h pos pins s σ H _ I hq) fun us s1 ⟨xs,H1,I1,r,z,q⟩=>⟨by rw [← r.length];exact z,?_⟩);have hf:H1 s1.heap.objs.size=none:=I1.hok.fresh (Nat.le_refl _);refine ⟨.ref s1.heap.objs.size,upd H1 s1.heap.objs.size (.tup xs),I1.laid (t':=s1.toks) (fun b u e=>Heap.get?_push_of_some _ e) (Nat.le_refl _) ?_,rfl,q _ hf⟩;exact ⟨z,us,r,⟨_,Heap.get?_push_size _ rfl,rfl,_,rfl⟩⟩
theorem Za1 (h:PA X es t):PE X (.List es pos) (tLst t):=by intro pins s σ H Q I hq;refine wpAny_List_spliced (thn (h pos pins s σ H _ I hq) fun us s1 ⟨xs,H1,I1,r,z,q⟩=>⟨by rw [← r.length];exact z,?_⟩);have hf:H1 s1.heap.objs.size=none:=I1.hok.fresh (Nat.le_refl _);refine ⟨.ref s1.heap.objs.size,upd H1 s1.heap.objs.size (.lst xs),I1.laid (t':=s1.toks) (fun b u e=>Heap.get?_push_of_some _ e) (Nat.le_refl _) ?_,rfl,q _ hf⟩;exact ⟨z,us,0,r,Heap.get?_push_size _ rfl⟩
end
abbrev Sp:=List V→Hp→VK→XK→Prop
abbrev CXT:=List Env→Hp→Shared→XK→Value→Shared→Prop
structure Env0 (P:Program)(w:World)(K:PySem.W.Frag)(mg:Str→Option Value)(base:Heap)(A:Around)(outer:List Env)(s:Shared)(H:Hp):Prop where
 frames:A.frames=some outer
 mod:Mod K mg base
 bs:∀ b o,base.get? b=some o→s.heap.get? b=some o∧H b=none
 bsz:base.objs.size≤s.heap.objs.size
 funs:s.heap.FunFrames base outer
 frf:∀ b∈frs outer,H b=none
 hok:HOk P w H s.heap
 bare:AllBare s.gens
def CE (outer:List Env)(P:Program)(w:World)(H:Hp)(s:Shared)(Q:VK)(u:Value)(s':Shared):Prop :=
 ∃ v H',s'.os=s.os∧AllBare s'.gens∧Un (frs outer) [] H H' s.heap s'.heap∧HOk P w H' s'.heap∧RelV v u∧Q v H'
def CR (CX:CXT)(outer:List Env)(P:Program)(w:World)(H:Hp)(s:Shared)(Q:VK)(E:XK)(r:Result)(s':Shared):Prop :=
 match r with
 | .ok (.ret u)=>CE outer P w H s Q u s'
 | .ok _=>False
 | .error e=>CX outer H s E e s'
structure FnOk (P:Program)(w:World)(K:PySem.W.Frag)(mg:Str→Option Value)(base:Heap)(CX:CXT)(k:Nat)(f:Addr)(fd:FuncData)(ps:List Str)(sp:Sp):Prop where
 len:∀ vs H Q E,sp vs H Q E→vs.length=ps.length
 run:∀ (A:Around) (outer:List Env) (s:Shared) (H:Hp) (args:Args) (us:List Value) (vs:List V) (Q:VK) (E:XK),Room k A→Env0 P w K mg base A outer s H→BindsTo s fd args (ps.zip us)→Vals vs us→sp vs H Q E →
   codeAny (model P w) A (.call (.ref f) args) (CR CX outer P w H s Q E) s
theorem FnOk.mono {P:Program}{w:World}{K:PySem.W.Frag}{mg:Str→Option Value}{base:Heap}{CX:CXT}{j k:Nat}{f:Addr}{fd:FuncData}{ps:List Str}{sp:Sp}(F:FnOk P w K mg base CX j f fd ps sp)(h:j≤k) :
   FnOk P w K mg base CX k f fd ps sp:=⟨F.len,fun A outer s H args us vs Q E hr=>F.run A outer s H args us vs Q E (hr.mono h)⟩
theorem FnOk.imp {P:Program}{w:World}{K:PySem.W.Frag}{mg:Str→Option Value}{base:Heap}{CX:CXT}{k:Nat}{f:Addr}{fd:FuncData}{ps:List Str}{sp sp':Sp}(F:FnOk P w K mg base CX k f fd ps sp)
   (h:∀ vs H Q E,sp' vs H Q E→sp vs H Q E):FnOk P w K mg base CX k f fd ps sp' :=
 ⟨fun vs H Q E q=>F.len vs H Q E (h _ _ _ _ q),fun A outer s H args us vs Q E hr he hb hv hs=>F.run A outer s H args us vs Q E hr he hb hv (h _ _ _ _ hs)⟩
theorem Env0.make {P:Program}{w:World}{K:PySem.W.Frag}{mg:Str→Option Value}{base:Heap}{A:Around}{outer:List Env}{s:Shared}{H:Hp}(e:Env0 P w K mg base A outer s H)(C:Addr)(us:List Value)(kw:List (Str × Value)) :
   Env0 P w K mg base (A.under (.builtin "type.__call__" ⟨.ref C::us,kw⟩)) outer s H:=⟨by first | exact e.frames | (simpa [Around.under,Code.envs,Code.isFrame,pushEnvs] using e.frames),e.mod,e.bs,e.bsz,e.funs,e.frf,e.hok,e.bare⟩
section
variable {X:Cx}{pins:List (Addr × Obj)}{σ:St}{H:Hp}{s s':Shared}
theorem Inv.env0 (I:Inv X pins σ H s):Env0 X.prog X.w X.K X.mg X.base X.A X.stack s H :=
 ⟨I.ok.frames,I.ok.mod,I.bs,Nat.le_trans I.ok.bsz I.sz,I.stack,I.stkFree,I.hok,I.bare⟩
theorem Inv.after {Q:VK}{u:Value}(I:Inv X pins σ H s)(h:CE X.stack X.prog X.w H s Q u s'):EP X pins σ Q u s':=by obtain ⟨v,H',os,bare,un,hok,r,q⟩:=h;obtain ⟨hh,g,d,t,os'⟩:=s';obtain rfl:os'=s.os:=os;exact ⟨v,H',I.call (h':=hh) (g':=g) (d':=d) (t':=t) (ch:=[]) un hok bare (fun b z=>absurd z (by simp)),r,q⟩
end
def tCall (sp:Sp)(dvs:List V)(E:XK)(t:TA):TE:=fun σ H Q=>t σ H fun vs H1=>sp (vs++dvs) H1 Q E
def tMake (C:Addr)(sp:Sp)(dvs:List V)(E:XK)(t:TA):TE:=fun σ H Q=>t σ H fun vs H1=>∀ x dx,H1 x=none→H1 dx=none→dx≠x →
 sp (.ref x::(vs++dvs)) (upd (upd H1 dx (.own x)) x (.ins C dx [])) (fun v H2=>v=.non∧Q (.ref x) H2) E
def Binds (K:PySem.W.Frag)(fd:FuncData)(ps:List Str)(ds:List Value):Prop :=
 ∀ (s:Shared) (us:List Value),K.In s.heap→(us++ds).length=ps.length→BindsTo s fd ⟨us,[]⟩ (ps.zip (us++ds))
theorem Binds.all {K:PySem.W.Frag}{fd:FuncData}{ps:List Str}(h:∀ us:List Value,us.length=ps.length→bindArgs fd ⟨us,[]⟩=pure (ps.zip us)):Binds K fd ps []:=fun s us _ hl=>by
 rw [List.append_nil] at hl ⊢;exact .of_eq (h us hl)
def Passes (CX:CXT)(X:Cx)(E:XK):Prop:=∀ (pins:List (Addr × Obj)) (σ:St) (H:Hp) (s:Shared) (e:Value) (s':Shared),Inv X pins σ H s→CX X.stack H s E e s'→X.xe e s'
section
variable {X:Cx}{CX:CXT}{k:Nat}{f C:Addr}{fd:FuncData}{ps:List Str}{sp:Sp}{dvs:List V}{ds:List Value}{E:XK}{x m:Str}{p pos apos:Pos}{e o:Expr}{es:List Expr}{ta:TE}{t:TA}
theorem ZfR {pins:List (Addr × Obj)}{σ:St}{H:Hp}{s:Shared}{Q:VK}{us:List Value}{vs:List V}(F:FnOk X.prog X.w X.K X.mg X.base CX k f fd ps sp)(hr:Room k X.A)(hb:Binds X.K fd ps ds)(hd:Vals dvs ds)(hx:Passes CX X E)
   (I:Inv X pins σ H s) (r:Vals vs us) (h:sp (vs++dvs) H Q E):wpAny (model X.prog X.w) X.A (call (.ref f) us) (EP X pins σ Q) X.xe s:=by
 have r2:Vals (vs++dvs) (us++ds):=r.append hd;have hl:(us++ds).length=ps.length:=by rw [← r2.length];exact F.len _ _ _ _ h
 refine wpAny_call (codeAny_mono (F.run X.A X.stack s H ⟨us,[]⟩ (us++ds) (vs++dvs) Q E hr I.env0 (hb s us I.kIn hl) r2 h) fun r s' hq=>?_);cases r with
 | error e=>exact hx pins σ H s e s' I hq
 | ok fl =>
   cases fl with
   | ret u=>exact I.after hq
   | next=>exact False.elim hq
   | brk=>exact False.elim hq
   | cont=>exact False.elim hq
theorem pe_call (F:FnOk X.prog X.w X.K X.mg X.base CX k f fd ps sp)(hr:Room k X.A)(hg:Gl X x)(hm:X.mg x=some (.ref f))(hk:PySem.W.keepIn X.K (.ref f)=true)(hb:Binds X.K fd ps ds)(hd:Vals dvs ds)(hx:Passes CX X E)
   (ha:PA X (e::es) t) (hdb:(x==("__debug__":Str))=false:=by decide) (he:starEach (e::es) X.env=(false,eval e X.env)::starEach es X.env:=by rfl) (hpl:(backTo pos (starEach es X.env)).any (·.1)=false:=by rfl) :
   PE X (.Call (.Name x p) (e::es) [] pos) (tCall sp dvs E t):=by
 intro pins s σ H Q I h;refine wpAny_Call_Name_kw (Zdw I hg hm ?_ hdb);refine PySem.W.callWith_K (h₀:=X.base) I.ok.mod.kin hk (thn (ha pos pins s σ H _ I h) fun us s1 ⟨vs,H1,I1,r,q⟩=>⟨I1.kIn,?_⟩) he hpl;exact ZfR F hr hb hd hx I1 r q
structure Mk (K:PySem.W.Frag)(C f:Addr):Prop where
 makes:PySem.W.makesIn K C=true
 init:PySem.W.findIn K (.ref C) "__init__"=some (some (.ref f))
 fn:PySem.W.isFn K (.ref f)=true
 kp:PySem.W.keepIn K (.ref C)=true
theorem Zhw {pins:List (Addr × Obj)}{σ:St}{H:Hp}{s:Shared}{Q:VK}{us:List Value}{vs:List V}(M:Mk X.K C f)(F:FnOk X.prog X.w X.K X.mg X.base CX k f fd ps sp)(hr:Room (k+1) X.A)(hb:Binds X.K fd ps ds)(hd:Vals dvs ds)
   (hx:Passes CX X E) (I:Inv X pins σ H s) (r:Vals vs us)
   (h:∀ x dx,H x=none→H dx=none→dx≠x→sp (.ref x::(vs++dvs)) (upd (upd H dx (.own x)) x (.ins C dx [])) (fun v H2=>v=.non∧Q (.ref x) H2) E) :
   wpAny (model X.prog X.w) X.A (call (.ref C) us) (EP X pins σ Q) X.xe s:=by
 have hq:=h (s.heap.objs.size+1) s.heap.objs.size (I.hok.fresh (Nat.le_succ _)) (I.hok.fresh (Nat.le_refl _)) (Nat.ne_of_lt (Nat.lt_succ_self _));have I2:=Inv.made (C:=C) I;have r2:Vals (V.ref (s.heap.objs.size+1)::(vs++dvs)) (Value.ref (s.heap.objs.size+1)::(us++ds)):=.cons rfl (r.append hd);have hl:(Value.ref (s.heap.objs.size+1)::us++ds).length=ps.length:=by have e:=r2.length;rw [F.len _ _ _ _ hq] at e;exact e.symm
 refine wpAny_call (make_map (f:=f) I.kIn M.makes M.init (beq_iff_eq.mp M.fn) (codeAny_mono (F.run _ X.stack _ _ ⟨Value.ref (s.heap.objs.size+1)::us,[]⟩ (Value.ref (s.heap.objs.size+1)::(us++ds)) _ _ E (hr.make C us [])
   (I2.env0.make C us []) (hb _ (Value.ref (s.heap.objs.size+1)::us) I2.kIn hl) r2 hq) fun r s' hq'=>?_))
 cases r with
 | error e=>exact hx pins σ _ _ e s' I2 hq'
 | ok fl =>
   cases fl with
   | ret u =>
     obtain ⟨v,H',I3,rv,ev,q3⟩:=I2.after hq';subst ev;exact ⟨rv,⟨V.ref (s.heap.objs.size+1),H',I3,rfl,q3⟩⟩
   | next=>exact False.elim hq'
   | brk=>exact False.elim hq'
   | cont=>exact False.elim hq'
theorem pe_make (M:Mk X.K C f)(F:FnOk X.prog X.w X.K X.mg X.base CX k f fd ps sp)(hr:Room (k+1) X.A)(hg:Gl X x)(hm:X.mg x=some (.ref C))(hb:Binds X.K fd ps ds)(hd:Vals dvs ds)(hx:Passes CX X E)
   (ha:PA X (e::es) t) (hdb:(x==("__debug__":Str))=false:=by decide) (he:starEach (e::es) X.env=(false,eval e X.env)::starEach es X.env:=by rfl) (hpl:(backTo pos (starEach es X.env)).any (·.1)=false:=by rfl) :
   PE X (.Call (.Name x p) (e::es) [] pos) (tMake C sp dvs E t):=by
 intro pins s σ H Q I h;refine wpAny_Call_Name_kw (Zdw I hg hm ?_ hdb);refine PySem.W.callWith_K (h₀:=X.base) I.ok.mod.kin M.kp (thn (ha pos pins s σ H _ I h) fun us s1 ⟨vs,H1,I1,r,q⟩=>⟨I1.kIn,?_⟩) he hpl;exact Zhw M F hr hb hd hx I1 r q
theorem pe_make0 (M:Mk X.K C f)(F:FnOk X.prog X.w X.K X.mg X.base CX k f fd ps sp)(hr:Room (k+1) X.A)(hg:Gl X x)(hm:X.mg x=some (.ref C))(hb:Binds X.K fd ps ds)(hd:Vals dvs ds)(hx:Passes CX X E)
   (hdb:(x==("__debug__":Str))=false:=by decide):PE X (.Call (.Name x p) [] [] pos) (tMake C sp dvs E tNil):=by
 intro pins s σ H Q I h;refine wpAny_Call_Name_kw (Zdw I hg hm ?_ hdb);exact PySem.W.callWith_K0 I.kIn M.kp (Zhw (us:=[]) M F hr hb hd hx I .nil h)
end
section
variable {X:Cx}{CX:CXT}{k:Nat}{f C:Addr}{fd:FuncData}{ps ks:List Str}{sp:Sp}{E:XK}{x m:Str}{p pos apos kpos:Pos}{e o:Expr}{es:List Expr}{kws:List Keyword}{te ta:TE}{t tk:TA}{nm:Option Str}
structure KBinds (K:PySem.W.Frag)(fd:FuncData)(ps ks:List Str)(g:List Value→List Value→List Value)(gV:List V→List V→List V):Prop where
 to:∀ (s:Shared) (us ws:List Value),K.In s.heap→(g us ws).length=ps.length→BindsTo s fd ⟨us,ks.zip ws⟩ (ps.zip (g us ws))
 rel:∀ {vs:List V} {us:List Value} {zs:List V} {ws:List Value},Vals vs us→Vals zs ws→Vals (gV vs zs) (g us ws)
variable {g:List Value→List Value→List Value}{gV:List V→List V→List V}
end
structure FnScope (N P:List Str)(sc:Scope):Prop where
 kind:sc.kind=.function
 co:sc.isCoroutine=false
 gen:sc.isGenerator=false
 nd:N.Nodup
 pre:N.take P.length=P
 par:∀ x∈P,sc.names.lookup x=some .local∨sc.names.lookup x=some .cell
 nofree:∀ y∈sc.names,y.2≠.free
theorem Zfu {kindOf:Str→Option NameKind}{x:Str}:∀ {binds:List (Str × Value)} {m:Str→Option Value},(∀ v,(x,v)∉binds)→bindL kindOf binds m x=m x
 | [],_,_=>rfl
 | (n,v)::r,m,h=>by
   unfold bindL;rw [Zfu fun w hw=>h w (List.mem_cons_of_mem _ hw)];split
   · have:x≠n:=by rintro rfl;exact h v List.mem_cons_self
     simp [this]
   · rfl
theorem Zft {kindOf:Str→Option NameKind}{x:Str}:∀ {binds:List (Str × Value)} {m:Str→Option Value},(∀ v,(x,v)∉binds)→bindC kindOf binds m x=m x
 | [],_,_=>rfl
 | (n,v)::r,m,h=>by
   unfold bindC;rw [Zft fun w hw=>h w (List.mem_cons_of_mem _ hw)];split
   · rfl
   · have:x≠n:=by rintro rfl;exact h v List.mem_cons_self
     simp [this]
theorem Zfp {kindOf:Str→Option NameKind}{x:Str}{v:Value}:∀ {P:List Str} {vs:List Value} {i:Nat} {m:Str→Option Value},P.Nodup→P[i]?=some x→vs[i]?=some v→kindOf x=some .local →
   bindL kindOf (P.zip vs) m x=some v
 | [],_,_,_,_,h,_,_=>by simp at h
 | _::_,[],_,_,_,_,h,_=>by simp at h
 | p::P,w::vs,0,m,nd,h1,h2,hk=>by
   simp at h1 h2;subst h1;subst h2;show bindL kindOf ((p,w)::P.zip vs) m p=_;unfold bindL;rw [Zfu fun v hv=>(List.nodup_cons.mp nd).1 (List.of_mem_zip hv).1,if_pos hk];simp
 | p::P,w::vs,i+1,m,nd,h1,h2,hk=>by
   show bindL kindOf ((p,w)::P.zip vs) m x=_;unfold bindL;exact Zfp (i:=i) (List.nodup_cons.mp nd).2 (by simpa using h1) (by simpa using h2) hk
theorem ZfC {kindOf:Str→Option NameKind}{x:Str}{v:Value}:∀ {P:List Str} {vs:List Value} {i:Nat} {m:Str→Option Value},P.Nodup→P[i]?=some x→vs[i]?=some v→kindOf x≠some .local →
   bindC kindOf (P.zip vs) m x=some v
 | [],_,_,_,_,h,_,_=>by simp at h
 | _::_,[],_,_,_,_,h,_=>by simp at h
 | p::P,w::vs,0,m,nd,h1,h2,hk=>by
   simp at h1 h2;subst h1;subst h2;show bindC kindOf ((p,w)::P.zip vs) m p=_;unfold bindC;rw [Zft fun v hv=>(List.nodup_cons.mp nd).1 (List.of_mem_zip hv).1,if_neg hk];simp
 | p::P,w::vs,i+1,m,nd,h1,h2,hk=>by
   show bindC kindOf ((p,w)::P.zip vs) m x=_;unfold bindC;exact ZfC (i:=i) (List.nodup_cons.mp nd).2 (by simpa using h1) (by simpa using h2) hk
def start (N:List Str)(vs:List V):St:=vs.map some++List.replicate (N.length-vs.length) none
def cxOf (CX:CXT)(P:Program)(w:World)(K:PySem.W.Frag)(mg:Str→Option Value)(base:Heap)(N:List Str)(qual:Str)(scope:Scope)(f:Addr)(cd:Value)(A:Around)(outer:List Env)(s:Shared)(H:Hp)(E:XK):Cx where
 prog:=P
 w:=w
 K:=K
 mg:=mg
 base:=base
 A:=A.deeper (envOfC qual scope s.heap.objs.size f cd)
 N:=N
 s₀:=s
 H₀:=H
 env:=envOfC qual scope s.heap.objs.size f cd
 outer:=outer
 stack:=envOfC qual scope s.heap.objs.size f cd::outer
 ex:=[]
 calm:=true
 fn:=fun _=>true
 pn:=[]
 xe:=fun e s'=>wpAny (model P w) (A.deeper (envOfC qual scope s.heap.objs.size f cd)) (leaving (envOfC qual scope s.heap.objs.size f cd) e) (fun _ s''=>CX outer H s E e s'') (fun e' s''=>CX outer H s E e' s'') s'
theorem ZhF {sc:Scope}{n:Nat}{x:Str}(h:sc.names.lookup x=some .cell):∃ c,(cellsFrom n sc.names []).lookup x=some c:=by have q:=PySem.W.cellsFrom_some sc.names n [] (.inl h);exact Option.isSome_iff_exists.mp q
theorem Zj9 {CX:CXT} {P:Program} {w:World} {K:PySem.W.Frag} {mg:Str→Option Value} {base:Heap} {N ps:List Str} {qual:Str} {scope:Scope} {f:Addr} {cd:Value} {A:Around} {outer:List Env} {s s1:Shared} {H:Hp} {E:XK} {us:List Value} {vs:List V}
   (S:FnScope N ps scope) (hd:A.handled=none) (e0:Env0 P w K mg base A outer s H) (hl:vs.length=ps.length) (r:Vals vs us)
   (x:InCallC s s.heap.objs.size (bindL (envOfC qual scope s.heap.objs.size f cd).kindOf (ps.zip us) fun _=>none) (cellsFrom (s.heap.objs.size+1) scope.names []) (bindC (envOfC qual scope s.heap.objs.size f cd).kindOf (ps.zip us) fun _=>none) s1) :
   Inv (cxOf CX P w K mg base N qual scope f cd A outer s H E) [] (start N vs) H s1:=by
 have hpl:ps.length≤N.length:=by have:=congrArg List.length S.pre;rw [List.length_take] at this;omega
 obtain ⟨h1,tk,rfl,hk⟩:=x.done;have noA:∀ b:Addr,b∉(cxOf CX P w K mg base N qual scope f cd A outer s H E).ex:=fun b z=>absurd (show b∈([]:List Addr) from z) (by simp)
 refine ⟨⟨e0.mod,S.kind,rfl,rfl,Nat.le_refl _,fun y z c h1 h2=>?_,fun y hy=>?_,fun y c _ h=>?_,fun _=>hd,Around.frames_deeper e0.frames,.inr ⟨rfl,rfl⟩,fun b z=>absurd z (noA b),e0.bs,e0.bsz,fun b _ _=>noA b,fun b z=>absurd z (noA b),e0.funs,e0.frf⟩,
   rfl,e0.bare,Un.kept hk,⟨_,x.toInCall.ns,fun i y v h1 h2 h3=>?_⟩,fun y c h=>⟨_,x.cell y c h⟩,e0.hok.fresh (Nat.le_refl _),fun y c h=>?_,fun p hp=>absurd (show p∈([]:List (Addr × Obj)) from hp) (by simp),e0.hok.kept hk,?_⟩
 · exact name_of_addr x.apart (PySem.mem_of_lookup h1) (PySem.mem_of_lookup h2)
 · have hy:scope.names.lookup y=some .cell∨scope.names.lookup y=some .free:=hy
   rcases hy with hy | hy
   · exact ZhF hy
   · exact absurd rfl (S.nofree _ (PySem.mem_of_lookup hy))
 · exact Nat.le_of_lt (x.above y c (PySem.mem_of_lookup h))
 · have hi:i<vs.length:=by
     unfold start at h2;by_cases hi:i<vs.length
     · exact hi
     · rw [List.getElem?_append_right (by simpa using hi)] at h2
       rw [List.getElem?_replicate] at h2;split at h2<;>cases h2
   have ha:vs[i]?=some v:=by
     unfold start at h2;rw [List.getElem?_append_left (by simpa using hi),List.getElem?_map] at h2;cases e:vs[i]? with
     | none=>rw [e] at h2;cases h2
     | some a=>rw [e] at h2;cases h2;rfl
   obtain ⟨u,hu,rv⟩:=r.get ha;have hp:ps[i]?=some y:=by rw [← S.pre,List.getElem?_take_of_lt (by omega)];exact h1
   have ndP:ps.Nodup:=by rw [← S.pre];exact S.nd.sublist (List.take_sublist _ _)
   refine ⟨u,rv,?_⟩;rcases S.par y (List.mem_of_getElem? hp) with k | k
   · exact .inl ⟨k,Zfp ndP hp hu k⟩
   · obtain ⟨c,e⟩:=ZhF (n:=s.heap.objs.size+1) k
     refine .inr ⟨.inl k,c,e,?_⟩;have q:=x.cell y c e;rw [ZfC ndP hp hu (by show scope.names.lookup y≠_;rw [k];decide)] at q;exact q
 · exact e0.hok.fresh (Nat.le_of_lt (x.above y c (PySem.mem_of_lookup h)))
 · unfold start
   show _=N.length;rw [List.length_append,List.length_map,List.length_replicate];omega
theorem fn_of {CX:CXT}{P:Program}{w:World}{K:PySem.W.Frag}{mg:Str→Option Value}{base:Heap}{k:Nat}{f:Addr}{name qual:Str}{params:Arguments}{body:List Stmt}{scope:Scope}{dV kV doc pm cdv ct oc:Value}{an od:Option Addr}
   {osl:Array (Option Value)} {N ps:List Str} {sp:Sp} (lk:K.lookup f=some ⟨oc,od,.func (PySem.W.fnOf name qual params body scope dV kV doc pm an cdv ct),osl⟩) (hcd:PySem.W.codeIn K cdv qual=true) (S:FnScope N ps scope)
   (len:∀ vs H Q E,sp vs H Q E→vs.length=ps.length)
   (hbody:∀ (A:Around) (outer:List Env) (s:Shared) (H:Hp) (vs:List V) (Q:VK) (E:XK),Room k (A.deeper (envOfC qual scope s.heap.objs.size f cdv))→sp vs H Q E →
     ∃ t,PSs (cxOf CX P w K mg base N qual scope f cdv A outer s H E) body t∧t { nx:=fun _ H'=>Q .non H',rt:=Q } (start N vs) H) :
   FnOk P w K mg base CX (k+1) f (PySem.W.fnOf name qual params body scope dV kV doc pm an cdv ct) ps sp:=by
 refine ⟨len,fun A outer s H args us vs Q E hr e0 hb r hsp=>?_⟩;have hl:=len _ _ _ _ hsp;have KX:K.In s.heap:=e0.mod.kin.keeps fun b o e=>(e0.bs b o e).1
 have lim:s.heap.NoLimit:=e0.mod.nolimit.keeps fun b o e=>(e0.bs b o e).1
 have hkind:∀ y∈ps.zip us,scope.names.lookup y.1=some .local∨(scope.names.lookup y.1=some .cell∧((cellsFrom (s.heap.objs.size+1) scope.names []).lookup y.1).isSome=true):=fun ⟨n,v⟩ hy=>by
   rcases S.par n (List.of_mem_zip hy).1 with q | q
   · exact .inl q
   · exact .inr ⟨q,PySem.W.cellsFrom_some _ _ _ (.inl q)⟩
 refine codeAny_call_function hr.depth (KX _ _ lk) rfl S.co S.gen rfl (PySem.W.codeRec_of KX hcd) (hb _ _ _ _ ?_);refine wpAny_newFunctionEnv_cells S.kind hkind fun env he s1 x=>?_
 subst he;refine ⟨lim.keeps x.toInCall.keep,codeAny_func ?_⟩;obtain ⟨t,ht,hq⟩:=hbody A outer s H vs Q E (hr.deeper _) hsp;have I:Inv (cxOf CX P w K mg base N qual scope f cdv A outer s H E) [] (start N vs) H s1:=Zj9 S hr.hd e0 hl r x;refine wpAny_mono (ht [] s1 (start N vs) H _ I hq) (fun fl s' hs=>?_) fun e s' hs=>hs
 have fin:∀ {σ':St} {H':Hp} {v:V} {u:Value},Inv (cxOf CX P w K mg base N qual scope f cdv A outer s H E) [] σ' H' s'→RelV v u→Q v H'→CE outer P w H s Q u s' :=
   fun {σ' H' v u} J rv q=>⟨v,H',J.os,J.bare,J.base,J.hok,rv,q⟩
 cases fl with
 | ret u =>
   obtain ⟨v,σ',H',J,rv,q⟩:=hs;exact fin J rv q
 | next =>
   obtain ⟨σ',H',J,q⟩:=hs;exact fin (v:=V.non) (u:=Value.none) J rfl q
 | brk =>
   obtain ⟨_,_,_,q⟩:=hs;exact False.elim q
 | cont =>
   obtain ⟨_,_,_,q⟩:=hs;exact False.elim q
end L2
namespace L2
open PySem PySem.Spec PyProof.Rows
section
variable {X:Cx}{x:Str}{p pos:Pos}{e:Expr}{es:List Expr}{t:TA}{id T:String}{r:List V→Hp→VK→Prop}
def tCB (r:List V→Hp→VK→Prop)(t:TA):TE:=fun σ H Q=>t σ H fun vs H1=>r vs H1 Q
theorem ZaF (hc:CallR X (.builtin id) r)(hg:Gl X x)(hm:X.mg x=none)(hv:bootBuiltins x=some (.builtin id))(ha:PA X (e::es) t)(hn:x≠"__name__":=by decide)(hdb:(x==("__debug__":Str))=false:=by decide)
   (he:starEach (e::es) X.env=(false,eval e X.env)::starEach es X.env:=by rfl) (hpl:(backTo pos (starEach es X.env)).any (·.1)=false:=by rfl):PE X (.Call (.Name x p) (e::es) [] pos) (tCB r t):=by
 intro pins s σ H Q I h;refine wpAny_Call_Name_kw (ZbR I hg hm hv ?_ hn hdb);exact PyProof.Rows.callWith_builtin1 (thn (ha pos pins s σ H _ I h) fun us s1 ⟨vs,H1,I1,r1,q1⟩=>hc pins s1 σ H1 vs us Q I1 r1 q1) he hpl
theorem Za8 (hc:CallR X (.type T) r)(hg:Gl X x)(hm:X.mg x=none)(hv:bootBuiltins x=some (.type T))(ha:PA X (e::es) t)(hn:x≠"__name__":=by decide)(hdb:(x==("__debug__":Str))=false:=by decide)
   (he:starEach (e::es) X.env=(false,eval e X.env)::starEach es X.env:=by rfl) (hpl:(backTo pos (starEach es X.env)).any (·.1)=false:=by rfl):PE X (.Call (.Name x p) (e::es) [] pos) (tCB r t):=by
 intro pins s σ H Q I h;refine wpAny_Call_Name_kw (ZbR I hg hm hv ?_ hn hdb);exact PyProof.Rows.callWith_type1 (thn (ha pos pins s σ H _ I h) fun us s1 ⟨vs,H1,I1,r1,q1⟩=>hc pins s1 σ H1 vs us Q I1 r1 q1) he hpl
end
end L2
namespace HT
open PySem PyProof.Rows
section
open PySem.SeqAt
open PySem.AutoSeq1 (wpAny_loadPart')
open PySem.MeetsSeq PySem.MeetsSeq2 PySem.MeetsSeq3
end
section
variable {prog:Program}{w:World}{A:Around}{E:Value→Shared→Prop}{s:Shared}
def sIx (n d:Nat):Option Int→Nat
 | none=>d
 | some v=>if v<0 then (v+(n:Int)).toNat else min v.toNat n
theorem sIx_none (n d:Nat):sIx n d none=d:=rfl
theorem sIx_nat (n d k:Nat):sIx n d (some (k:Int))=min k n:=by show (if (k:Int)<0 then ((k:Int)+(n:Int)).toNat else min (k:Int).toNat n)=min k n;rw [if_neg (by omega),Int.toNat_natCast]
end
end HT
namespace L2
open PySem PySem.Spec PyProof.Rows
abbrev TO:=St→Hp→(Option Int→Hp→Prop)→Prop
def PO (X:Cx) (e:Option Expr) (t:TO):Prop :=
 ∀ (pins:List (Addr × Obj)) (s:Shared) (σ:St) (H:Hp) (Q:Option Int→Hp→Prop),Inv X pins σ H s→t σ H Q →
   wpAny (model X.prog X.w) X.A (evalPart e X.env) (fun u s'=>∃ o H',Inv X pins σ H' s'∧IsPart u o∧Q o H') X.xe s
def tNoPart:TO:=fun _ H Q=>Q none H
def tPart (t:TE):TO:=fun σ H Q=>t σ H fun x H1=>∃ i,x=.int i∧Q (some i) H1
theorem ZeQ {ns:List Int}:∀ {us:List Value},Vals (ns.map V.int) us→IntsAre us ns:=by
 induction ns with
 | nil=>intro us r;rw [List.map_nil] at r;cases r;exact .nil
 | cons n ns ih =>
   intro us r;rw [List.map_cons] at r;cases r with
   | cons r1 r2 =>
     obtain ⟨t,e⟩:=r1;subst e;exact .cons n t (ih r2)
section
variable {X:Cx}{e:Expr}{te:TE}{lo hi:Option Expr}{tl th:TO}{pos p2:Pos}
theorem ZbQ:PO X none tNoPart:=by intro pins s σ H Q I h;rw [evalPart_none];exact wpAny_pure ⟨none,H,I,.none,h⟩
theorem Zbu (h:PE X e te):PO X (some e) (tPart te):=by
 intro pins s σ H Q I hw;rw [evalPart_some];refine thn (h pins s σ H _ I hw) fun u s1 ⟨x,H1,I1,r1,q1⟩=>?_
 obtain ⟨i,rfl,q⟩:=q1;obtain ⟨t,rfl⟩:=r1;exact ⟨some i,H1,I1,.int i t,q⟩
def SlR (X:Cx) (r:V→Option Int→Option Int→Hp→VK→Prop):Prop :=
 ∀ (pins:List (Addr × Obj)) (s:Shared) (σ:St) (H:Hp) (x:V) (v vl vu:Value) (lo hi:Option Int) (sl:Addr) (Q:VK),Inv X pins σ H s→RelV x v→s.heap.IsSliceOf sl vl vu .none→IsPart vl lo→IsPart vu hi→r x lo hi H Q →
   ∃ T id,typeLookup (.type T) "__getitem__"=pure (some (.builtin id))∧s.TypeIs v T∧wpAny (model X.prog X.w) X.A (getItem v (.ref sl)) (EP X pins σ Q) X.xe s
def tSl (r:V→Option Int→Option Int→Hp→VK→Prop)(te:TE)(tl th:TO):TE:=fun σ H Q=>te σ H fun x H1=>tl σ H1 fun l H2=>th σ H2 fun u H3=>r x l u H3 Q
theorem Zba {r:V→Option Int→Option Int→Hp→VK→Prop}(hr:SlR X r)(he:PE X e te)(hl:PO X lo tl)(hu:PO X hi th):PE X (.Subscript e (.Slice lo hi none p2) pos) (tSl r te tl th):=by
 intro pins s σ H Q I h;refine Subscript_ (thn (he pins s σ H _ I h) fun v s1 ⟨x,H1,I1,r1,q1⟩=>?_);refine wpAny_Slice (thn (hl pins s1 σ H1 _ I1 q1) fun vl s2 ⟨l,H2,I2,pl,q2⟩=>thn (hu pins s2 σ H2 _ I2 q2) fun vu s3 ⟨u,H3,I3,pu,q3⟩=>?_);rw [evalPart_none];refine wpAny_pure ?_;have I4:Inv X pins σ H3 { s3 with heap:=s3.heap.push { cls:=.type "slice",data:=.fields #[vl,vu,.none] } }:=I3.kept (t':=s3.toks) fun b ob q=>Heap.get?_push_of_some _ q
 obtain ⟨T,id,hT,ht,hg⟩:=hr pins { s3 with heap:=s3.heap.push { cls:=.type "slice",data:=.fields #[vl,vu,.none] } } σ H3 x v vl vu l u s3.heap.objs.size Q I4 r1 (Heap.IsSliceOf.new ..) pl pu q3;show wpAny (model X.prog X.w) X.A (subscriptTail e (.Slice lo hi none p2) v (.ref s3.heap.objs.size)) (EP X pins σ Q) X.xe { s3 with heap:=s3.heap.push { cls:=.type "slice",data:=.fields #[vl,vu,.none] } };exact tail_any (ops:=[.ref s3.heap.objs.size,v]) ht hT hg (by with_unfolding_all rfl)
def cutV (xs:List V)(lo hi:Option Int):List V:=(xs.drop (HT.sIx xs.length 0 lo)).take (HT.sIx xs.length xs.length hi-HT.sIx xs.length 0 lo)
theorem Zha (xs:List V)(lo hi:Option Int):(cutV xs lo hi).length≤xs.length:=by unfold cutV;rw [List.length_take,List.length_drop];omega
end
end L2
namespace L2
open PySem PySem.Spec PyProof.Rows
def ixN (n:Nat)(i:Int):Option Nat:=if 0≤i then (if i<n then some i.toNat else none) else if -(n:Int)≤i then some (i+n).toNat else none
def atI {α:Type}(xs:List α)(i:Int):Option α:=(ixN xs.length i).bind fun j=>xs[j]?
theorem ixN_seq {n:Nat}{i:Int}{j:Nat}(h:ixN n i=some j):seqIndex? i n=some j∧j<n∧-(n:Int)≤i∧i<n:=by
 unfold ixN at h;by_cases h0:0≤i
 · rw [if_pos h0] at h
   by_cases h1:i<n
   · rw [if_pos h1] at h
     have e:i.toNat=j:=Option.some.inj h;exact ⟨by rw [seqIndex_of h0 h1,e],by omega,by omega,h1⟩
   · rw [if_neg h1] at h;cases h
 · rw [if_neg h0] at h
   by_cases h1:-(n:Int)≤i
   · rw [if_pos h1] at h
     have e:(i+n).toNat=j:=Option.some.inj h;exact ⟨by rw [seqIndex_neg (by omega) h1,e],by omega,h1,by omega⟩
   · rw [if_neg h1] at h;cases h
theorem Zjo {α:Type}{xs:List α}{i:Int}{v:α}(h:atI xs i=some v):∃ j,seqIndex? i xs.length=some j∧xs[j]?=some v∧j<xs.length∧-(xs.length:Int)≤i∧i<xs.length:=by
 unfold atI at h;cases e:ixN xs.length i with
 | none=>rw [e] at h;cases h
 | some j =>
   rw [e] at h;obtain ⟨h1,h2,h3,h4⟩:=ixN_seq e;exact ⟨j,h1,h,h2,h3,h4⟩
theorem Zej {α:Type}{xs:List α}{j:Nat}{v:α}(h:xs[j]?=some v):atI xs (j:Int)=some v:=by
 have hj:j<xs.length:=(List.getElem?_eq_some_iff.mp h).1;have e:ixN xs.length (j:Int)=some j:=by unfold ixN;rw [if_pos (by omega),if_pos (by omega)];simp
 unfold atI;rw [e];exact h
def PlainIx (b:Expr):Prop:=∀ o i,subscripted b false o i=operate [o,i] (getItem o i)
def IxR (X:Cx) (r:R2):Prop :=
 ∀ (value slice:Expr) (pins:List (Addr × Obj)) (s:Shared) (σ:St) (H:Hp) (x y:V) (v u:Value) (Q:VK),Inv X pins σ H s→RelV x v→RelV y u→r x y H Q →
   subscripted slice false v u=operate [v,u] (getItem v u)→wpAny (model X.prog X.w) X.A (subscriptTail value slice v u) (EP X pins σ Q) X.xe s
def MtR (X:Cx) (id:String) (r:V→List V→Hp→VK→Prop):Prop :=
 ∀ (pins:List (Addr × Obj)) (s:Shared) (σ:St) (H:Hp) (x:V) (xs:List V) (v:Value) (us:List Value) (Q:VK),Inv X pins σ H s→RelV x v→Vals xs us→r x xs H Q →
   wpAny (model X.prog X.w) X.A (call (.builtin id) (v::us)) (EP X pins σ Q) X.xe s
section
variable {X:Cx}{a b:Expr}{ta tb:TE}{pos:Pos}
theorem Zci {r:R2}(hr:IxR X r)(ha:PE X a ta)(hb:PE X b tb)(hs:PlainIx b):PE X (.Subscript a b pos) (tOp r ta tb):=by intro pins s σ H Q I h;exact Subscript_ (binT ha hb I h fun v u s2 x y H2 I2 rx ry q=>hr a b pins s2 σ H2 x y v u Q I2 rx ry q (hs _ _))
def rIxL (K:PySem.W.Frag):R2:=fun x y H Q=>∃ p xs i v,x=.ref p∧y=.int i∧SqL K H p xs∧atI xs i=some v∧Q v H
def rIxT (K:PySem.W.Frag):R2:=fun x y H Q=>∃ p xs i v,x=.ref p∧y=.int i∧SqT K H p xs∧atI xs i=some v∧Q v H
theorem ix_list:IxR X (rIxL X.K):=by
 intro value slice pins s σ H x y v u Q I rx ry h hs;obtain ⟨p,xs,i,z,rfl,rfl,hq,he,q⟩:=h;cases rx;obtain ⟨t,rfl⟩:=ry;obtain ⟨its,r,pl,hz⟩:=I.list hq;obtain ⟨j,h1,h2,h3,h4,h5⟩:=Zjo he;obtain ⟨w,ew,rw'⟩:=r.get h2;have hl:=r.length;have hn:=line63;have fin:EP X pins σ Q w s:=⟨z,H,I,rw',q⟩
 by_cases h0:0≤i
 · have hj:i.toNat=j:=by
     rw [seqIndex_of h0 h5] at h1;exact Option.some.inj h1
   exact item_listR pl.isList h0 (by omega) (by rw [hj];simpa using ew) fin hs
 · have hj:(i+(its.toArray.size:Int)).toNat=j:=by
     rw [seqIndex_neg (by omega) h4] at h1;rw [List.size_toArray,← hl];exact Option.some.inj h1
   exact subscriptTail_builtinR (x:=w) pl.isList.typeIs slot_list_getitem.lookup
     (wpAny_getItem_list_neg (Q:=fun r s'=>r=w∧EP X pins σ Q r s') pl.isList (by omega) (by rw [List.size_toArray]<;>omega) (by omega) (by rw [hj];simpa using ew) ⟨rfl,fin⟩) hs
theorem ix_tup:IxR X (rIxT X.K):=by
 intro value slice pins s σ H x y v u Q I rx ry h hs;obtain ⟨p,xs,i,z,rfl,rfl,hq,he,q⟩:=h;cases rx;obtain ⟨t,rfl⟩:=ry;obtain ⟨its,r,pl,hz⟩:=I.tuple hq;obtain ⟨j,h1,h2,h3,h4,h5⟩:=Zjo he;obtain ⟨w,ew,rw'⟩:=r.get h2;have hl:=r.length;have hn:=line63;have fin:EP X pins σ Q w s:=⟨z,H,I,rw',q⟩
 exact subscriptTail_builtinR (x:=w) pl.typeIs slot_tuple_getitem.lookup
   (getItem_tuple (j:=j) (Q:=fun r s'=>r=w∧EP X pins σ Q r s') pl (by omega) (by omega) (by rw [List.size_toArray,← hl];exact h1) (by simpa using ew) ⟨rfl,fin⟩) hs
theorem Zga (lo hi:Option Int)(n:Nat):(sliceBounds lo hi none n).1=((HT.sIx n 0 lo:Nat):Int)∧(sliceBounds lo hi none n).2.1=((HT.sIx n n hi:Nat):Int)∧(sliceBounds lo hi none n).2.2=1:=by
 refine ⟨?_,?_,rfl⟩
 · cases lo with
   | none=>simp [sliceBounds,HT.sIx]
   | some i =>
     simp only [sliceBounds,HT.sIx,Option.getD_none,show (1:Int) > 0 by decide,if_true];by_cases h:i<0
     · simp only [h,if_true]<;>omega
     · simp only [h,if_false]<;>omega
 · cases hi with
   | none=>simp [sliceBounds,HT.sIx]
   | some i =>
     simp only [sliceBounds,HT.sIx,Option.getD_none,show (1:Int) > 0 by decide,if_true];by_cases h:i<0
     · simp only [h,if_true]<;>omega
     · simp only [h,if_false]<;>omega
theorem Zfa (its:List Value)(lo hi:Option Int):slicePick its.toArray lo hi none=((its.drop (HT.sIx its.length 0 lo)).take (HT.sIx its.length its.length hi-HT.sIx its.length 0 lo)).toArray:=by obtain ⟨h1,h2,h3⟩:=Zga lo hi its.toArray.size;unfold slicePick;rw [h1,h2,h3];simp only [sliceRange_one,pick_run,List.size_toArray]<;>rfl
def rSlL (K:PySem.W.Frag):V→Option Int→Option Int→Hp→VK→Prop:=fun x lo hi H Q=>∃ a xs,x=.ref a∧SqL K H a xs∧∀ p,H p=none→Q (.ref p) (upd H p (.lst (cutV xs lo hi)))
theorem sl_list:SlR X (rSlL X.K):=by intro pins s σ H x v vl vu lo hi sl Q I rx hs pl pu h;obtain ⟨a,xs,rfl,hx,q⟩:=h;cases rx;obtain ⟨its,r,ht,hz⟩:=I.list hx;have hlen:=r.length;refine ⟨"list",_,slot_list_getitem.lookup,ht.isList.typeIs,?_⟩;refine wpAny_getItem_list_slice ht.isList hs pl pu .none (by simp) ?_ (by rw [List.size_toArray]<;>omega);rw [Zfa,← hlen];refine ⟨.ref s.heap.objs.size,_,I.laid (t':=s.toks) (o:=.lst (cutV xs lo hi)) (fun b ob q=>Heap.get?_push_of_some _ q) (Nat.le_refl _) ?_,rfl,q _ (I.hok.fresh (Nat.le_refl _))⟩;exact ⟨Nat.le_trans (Zha xs lo hi) hz,_,0,(r.drop (HT.sIx xs.length 0 lo)).take (HT.sIx xs.length xs.length hi-HT.sIx xs.length 0 lo),Heap.get?_push_size _ rfl⟩
theorem Zgl:CallR X (.builtin "len") (fun xs H Q=>∃ p ys,xs=[.ref p]∧(SqL X.K H p ys∨SqT X.K H p ys)∧Q (.int ys.length) H):=by
 intro pins s σ H xs us Q I r h;obtain ⟨p,ys,rfl,hq,q⟩:=h;obtain ⟨u,rfl,rx⟩:=vals1 r;cases rx;have hn:=line63;rcases hq with hq | hq
 · obtain ⟨its,r',pl,hz⟩:=I.list hq
   have hlen:=r'.length;exact Calls.call_len_list pl.isList (by simp only [List.size_toArray]<;>omega) ⟨.int ys.length,H,I.tok _,⟨s.toks+1,by rw [List.size_toArray,hlen]⟩,q⟩
 · obtain ⟨its,r',pl,hz⟩:=I.tuple hq
   have hlen:=r'.length;exact len_tuple pl (by simp only [List.size_toArray]<;>omega) ⟨.int ys.length,H,I.tok _,⟨s.toks+1,by rw [List.size_toArray,hlen]⟩,q⟩
theorem Zgv:CallR X (.type "list") (fun xs H Q=>∃ p ys,xs=[.ref p]∧(SqL X.K H p ys∨SqT X.K H p ys)∧∀ l,H l=none→Q (.ref l) (upd H l (.lst ys))):=by
 intro pins s σ H xs us Q I r h;obtain ⟨p,ys,rfl,hq,q⟩:=h;obtain ⟨u,rfl,rx⟩:=vals1 r;cases rx;have fin:∀ (its:List Value),Vals ys its→ys.length≤sizeLine→∀ (h':Heap) (c':Nat),(∀ b o',s.heap.get? b=some o'→h'.get? b=some o') →
     h'.get? s.heap.objs.size=some { cls:=.type "list",dict:=none,data:=.seq its.toArray c',slots:=#[] }→EP X pins σ Q (.ref s.heap.objs.size) { s with heap:=h' }:=fun its r' hz h' c' kp e =>
   ⟨.ref s.heap.objs.size,_,I.laid (t':=s.toks) kp (Nat.le_refl _) (show ObjOk X.prog X.w _ h' _ (.lst ys) from ⟨hz,its,c',r',e⟩),rfl,q _ (I.hok.fresh (Nat.le_refl _))⟩
 rcases hq with hq | hq
 · obtain ⟨its,r',pl,hz⟩:=I.list hq
   have hlen:=r'.length;obtain ⟨o,ho,hc,n,hd⟩:=pl.isList;exact call_list_seq p (.inl rfl) ho hc hd (fun h' c' kp e=>fin its r' hz h' c' kp e) (by simp only [List.size_toArray]<;>omega)
 · obtain ⟨its,r',pl,hz⟩:=I.tuple hq
   have hlen:=r'.length;obtain ⟨o,ho,hc,n,hd⟩:=pl;exact call_list_seq p (.inr rfl) ho hc hd (fun h' c' kp e=>fin its r' hz h' c' kp e) (by simp only [List.size_toArray]<;>omega)
def tyV (K:PySem.W.Frag)(T:String)(x:V)(H:Hp):Prop:=match x with
 | .str _=>T="str"
 | .int _=>T="int"
 | .ref p=>(T="list"∧∃ xs,SqL K H p xs)∨(T="tuple"∧∃ o,K.lookup p=some o∧o.cls=.type "tuple"∧o.dict=none) ∨
     (T="dict"∧((∃ kvs,H p=some (.dK kvs))∨∃ kvs,H p=some (.dT kvs)))∨(T="set"∧∃ S n,H p=some (.set S n))
 | _=>False
theorem tyV_is {pins:List (Addr × Obj)} {σ:St} {H:Hp} {s:Shared} {T:String} {x:V} {v:Value} (I:Inv X pins σ H s) (r:RelV x v) (ty:tyV X.K T x H) :
   s.TypeIs v T∧∀ a,v=.ref a→∃ ob,s.heap.get? a=some ob∧ob.dict=none:=by
 cases x with
 | str z =>
   obtain ⟨t,rfl⟩:=r;cases (show T="str" from ty);exact ⟨typeIs_str s z t,fun _ e=>nomatch e⟩
 | int i =>
   obtain ⟨t,rfl⟩:=r;cases (show T="int" from ty);exact ⟨typeIs_int s i t,fun _ e=>nomatch e⟩
 | ref p =>
   cases r;rcases ty with ⟨rfl,xs,hq⟩ | ⟨rfl,o,hk,hc,hd⟩ | ⟨rfl,hk⟩ | ⟨rfl,S,n,hk⟩
   · obtain ⟨its,_,pl,_⟩:=I.list hq
     refine ⟨pl.isList.typeIs,fun a e=>?_⟩;cases e;obtain ⟨o,n,e,c,hd,_⟩:=pl;exact ⟨o,e,hd⟩
   · refine ⟨⟨o,I.kIn p o hk,hc⟩,fun a e=>?_⟩
     cases e;exact ⟨o,I.kIn _ o hk,hd⟩
   · have z:∃ o,s.heap.get? p=some o∧o.ExactDict:=by
       rcases hk with ⟨kvs,hk⟩ | ⟨kvs,hk⟩
       · obtain ⟨_,_,_,_,o,_,_,e,ex,_⟩:=I.hok p _ hk
         exact ⟨o,e,ex⟩
       · obtain ⟨_,_,_,_,o,_,_,e,ex,_⟩:=I.hok p _ hk
         exact ⟨o,e,ex⟩
     obtain ⟨o,e,ex⟩:=z;refine ⟨⟨o,e,ex.1⟩,fun a e2=>?_⟩;cases e2;exact ⟨o,e,ex.2.1⟩
   · obtain ⟨o,_,_,_,e,ex,_⟩:=I.hok p _ hk
     refine ⟨⟨o,e,ex.1⟩,fun a e2=>?_⟩;cases e2;exact ⟨o,e,ex.2.1⟩
 | _=>exact False.elim ty
def tBM0 (K:PySem.W.Frag)(T:String)(r:V→List V→Hp→VK→Prop)(to:TE):TE:=fun σ H Q=>to σ H fun x H1=>tyV K T x H1∧r x [] H1 Q
def tBM (K:PySem.W.Frag)(T:String)(r:V→List V→Hp→VK→Prop)(to:TE)(t:TA):TE:=fun σ H Q=>to σ H fun x H1=>tyV K T x H1∧t σ H1 fun xs H2=>r x xs H2 Q
variable {o e:Expr}{es:List Expr}{to:TE}{t:TA}{name:Str}{apos cpos:Pos}{T id:String}{r:V→List V→Hp→VK→Prop}
theorem pe_bm0 (pa:PlainAttrs T)(slot:Slot T name id)(hty:typeOf (.builtin id)=pure (.type "method_descriptor"))(hm:MtR X id r)(ho:PE X o to)
   (hbase:attributeBase o name X.env (eval o X.env)=eval o X.env:=by rfl) (hline:(apos.endLine==cpos.line)=true:=by rfl):PE X (.Call (.Attribute o name apos) [] [] cpos) (tBM0 X.K T r to):=by
 intro pins s σ H Q I h;refine wpAny_Call_method0_late hbase hline (thn (ho pins s σ H _ I h) fun v s1 ⟨x,H1,I1,r1,ty,q1⟩=>?_);obtain ⟨h1,h2⟩:=tyV_is I1 r1 ty;exact ⟨T,id,pa,slot,hty,h1,h2,Calls.callWith_builtin rfl (PySem.evalArgs_none (hm pins s1 σ H1 x [] v [] Q I1 r1 .nil q1))⟩
theorem pe_bm (pa:PlainAttrs T)(slot:Slot T name id)(hty:typeOf (.builtin id)=pure (.type "method_descriptor"))(hm:MtR X id r)(ho:PE X o to)(ha:PA X (e::es) t)
   (hbase:attributeBase o name X.env (eval o X.env)=eval o X.env:=by rfl)
   (hfew:((backTo cpos (starEach (e::es) X.env)).all (fun x=>!x.1)&&(backToKw cpos (keywordEach [] X.env)).all (fun x=>x.1.isSome)
     && decide ((e::es).length+([]:List Keyword).length+(if ([]:List Keyword).isEmpty then 0 else 1)<30))=true:=by rfl)
   (hline:(apos.endLine==cpos.line)=true:=by rfl) (hs:starEach (e::es) X.env=(false,eval e X.env)::starEach es X.env:=by rfl) (hplain:(backTo cpos (starEach es X.env)).any (·.1)=false:=by rfl) :
   PE X (.Call (.Attribute o name apos) (e::es) [] cpos) (tBM X.K T r to t):=by
 intro pins s σ H Q I h;refine wpAny_Call_method_late hbase hfew hline rfl (thn (ho pins s σ H _ I h) fun v s1 ⟨x,H1,I1,r1,ty,q1⟩=>?_);obtain ⟨h1,h2⟩:=tyV_is I1 r1 ty;refine ⟨T,id,pa,slot,hty,h1,h2,?_⟩;have hA:=ha cpos pins s1 σ H1 _ I1 q1;rw [hs] at hA ⊢;refine Calls.callWith_builtin (by show (false||(backTo cpos (starEach es X.env)).any (·.1))=false;rw [hplain]<;>rfl) (Calls.evalArgs_plain ?_);exact thn hA fun us s2 ⟨vs,H2,I2,r2,q2⟩=>hm pins s2 σ H2 x vs v us Q I2 r1 r2 q2
end
end L2
namespace L2
open PySem PySem.Spec PyProof.Rows
def MtM (X:Cx) (id:String) (r:V→List V→Hp→VK→Prop):Prop :=
 ∀ (pins:List (Addr × Obj)) (s:Shared) (σ:St) (H:Hp) (x:V) (xs:List V) (v:Value) (us:List Value) (Q:VK),Inv X pins σ H s→RelV x v→Vals xs us→r x xs H Q →
   wpAny (model X.prog X.w) X.A (call (.builtin id) (v::us)) (EP X pins σ Q) X.xe s
theorem Vals.one:∀ {x:V} {us:List Value},Vals [x] us→∃ u,us=[u]∧RelV x u
 | _,_,.cons r .nil=>⟨_,rfl,r⟩
theorem Vals.two:∀ {x y:V} {us:List Value},Vals [x,y] us→∃ u v,us=[u,v]∧RelV x u∧RelV y v:=by
 intro x y us h;cases h with
 | cons r t =>
   cases t with
   | cons q t2 =>
     cases t2;exact ⟨_,_,rfl,r,q⟩
theorem Vals.zero:∀ {us:List Value},Vals [] us→us=[]
 | _,.nil=>rfl
theorem Vals.rep {xs:List V}{us:List Value}(h:Vals xs us):∀ k:Nat,Vals (List.replicate k xs).flatten (List.replicate k us).flatten
 | 0=>.nil
 | k+1=>by
   rw [List.replicate_succ,List.replicate_succ,List.flatten_cons,List.flatten_cons];exact Vals.append h (Vals.rep h k)
theorem ZfA (its:List Value):∀ (k:Nat) (acc:List Value),
   List.foldl (fun x1 x2=>x1++x2) acc.toArray (List.replicate k its.toArray)=(acc++(List.replicate k its).flatten).toArray
 | 0,acc=>by simp
 | k + 1,acc=>by
   have e:acc.toArray++its.toArray=(acc++its).toArray:=by simp
   have e2:(acc++its)++(List.replicate k its).flatten=acc++(List.replicate (k+1) its).flatten:=by rw [List.replicate_succ,List.flatten_cons,List.append_assoc]
   rw [← e2,← ZfA its k (acc++its),← e,List.replicate_succ,List.foldl_cons]
section
variable {X:Cx}{pins:List (Addr × Obj)}{σ:St}{H:Hp}{s:Shared}{l b:Addr}{xs ys zs:List V}
theorem Inv.lset {its its':List Value}{n:Nat}{f:Array Value→Array Value}{t':Nat}(I:Inv X pins σ H s)(hH:H l=some (.lst xs))
   (e:s.heap.get? l=some { cls:=.type "list",data:=.seq its.toArray n }) (hf:f its.toArray=its'.toArray) (hv:Vals ys its') (hz:ys.length≤sizeLine) :
   Inv X pins σ (upd H l (.lst ys)) { s with heap:=s.heap.update l (Obj.mapSeq f),toks:=t' }:=by
 have q:=PySem.IsL.update e f;rw [hf] at q;refine I.write (x:=l) (e:=l) (by rw [hH];exact trivial) (.inl rfl) (fun b' u hb hu=>(Heap.get?_update_other s.heap (Obj.mapSeq f) (Ne.symm hb)).trans hu) ⟨_,q⟩ ?_;exact ⟨hz,its',_,hv,q⟩
theorem Inv.lnew {its:List Value}{t':Nat}(I:Inv X pins σ H s)(hv:Vals ys its)(hz:ys.length≤sizeLine) :
   Inv X pins σ (upd H s.heap.objs.size (.lst ys)) { s with heap:=s.heap.push { cls:=.type "list",data:=.seq its.toArray },toks:=t' } :=
 I.laid (fun _ _ q=>Heap.get?_push_of_some _ q) (Nat.le_refl _) ⟨hz,its,0,hv,Heap.get?_push_size _ rfl⟩
theorem Inv.fresh (I:Inv X pins σ H s):H s.heap.objs.size=none:=I.hok.fresh (Nat.le_refl _)
theorem Inv.lstM (I:Inv X pins σ H s)(hH:H l=some (.lst xs)):xs.length≤sizeLine∧∃ (its:List Value) (n:Nat),Vals xs its∧xs.length=its.length∧s.heap.get? l=some { cls:=.type "list",data:=.seq its.toArray n }:=by obtain ⟨z,its,n,r,e⟩:=I.hok l _ hH;exact ⟨z,its,n,r,r.length,e⟩
theorem notLongL {n:Nat}(h:n≤sizeLine):Builtin.List.listTooLong n=false:=by unfold Builtin.List.listTooLong;exact decide_eq_false (by omega)
end
section
variable {X:Cx}
def rAppend:V→List V→Hp→VK→Prop:=fun x vs H Q=>∃ l xs y,x=.ref l∧vs=[y]∧H l=some (.lst xs)∧xs.length<sizeLine∧Q .non (upd H l (.lst (xs++[y])))
theorem ZcH:MtM X "list.append" rAppend:=by intro pins s σ H x vs v us Q I rx rv h;obtain ⟨l,xs,y,rfl,rfl,hH,hz,q⟩:=h;cases rx;obtain ⟨u,rfl,ru⟩:=rv.one;obtain ⟨z,its,n,r,hl,e⟩:=I.lstM hH;refine call_meets F.slot_list_append ⟨_,e,rfl⟩ F.entry_list_append (F.args_list_append_2 _ _) (PySem.list_append l its.toArray n u (by rw [List.size_toArray];omega)) ⟨e,?_⟩;refine ⟨.non,_,I.lset (its':=its++[u]) hH e (by simp) (r.append (.cons ru .nil)) ?_,rfl,q⟩;rw [List.length_append,List.length_singleton];omega
def rCat:R2:=fun x y H Q=>∃ l b xs zs,x=.ref l∧y=.ref b∧H l=some (.lst xs)∧H b=some (.lst zs)∧xs.length+zs.length≤sizeLine∧∀ p,H p=none→Q (.ref p) (upd H p (.lst (xs++zs)))
theorem Zc7:OpR X (binaryOp .Add) rCat:=by
 intro pins s σ H x y v u Q I rx ry h;obtain ⟨l,b,xs,zs,rfl,rfl,hH,hB,hz,q⟩:=h;cases rx;cases ry;obtain ⟨z,its,n,r,hl,e⟩:=I.lstM hH;obtain ⟨z2,its2,n2,r2,hl2,e2⟩:=I.lstM hB;refine PySem.P.add_list e e2 ?_ (by rw [List.size_toArray,List.size_toArray];omega);have ea:its.toArray++its2.toArray=(its++its2).toArray:=by simp
 rw [ea];exact ⟨.ref _,_,I.lnew (t':=s.toks) (r.append r2) (by rw [List.length_append];omega),rfl,q _ I.fresh⟩
def rRep:R2:=fun x y H Q=>∃ l k xs,x=.ref l∧y=.int k∧H l=some (.lst xs)∧-(2^63)≤k∧k<2^63∧xs.length*k.toNat≤sizeLine ∧
 ∀ p,H p=none→Q (.ref p) (upd H p (.lst (List.replicate k.toNat xs).flatten))
theorem len_rep {α:Type}(xs:List α)(k:Nat):(List.replicate k xs).flatten.length=k*xs.length:=by
 induction k with
 | zero=>simp
 | succ k ih=>rw [List.replicate_succ,List.flatten_cons,List.length_append,ih,Nat.succ_mul,Nat.add_comm]
theorem ZiF:OpR X (binaryOp .Mult) rRep:=by
 intro pins s σ H x y v u Q I rx ry h;obtain ⟨l,k,xs,rfl,rfl,hH,h1,h2,hz,q⟩:=h;cases rx;obtain ⟨t,rfl⟩:=ry;obtain ⟨z,its,n,r,hl,e⟩:=I.lstM hH;have hlen:its.toArray.size*k.toNat≤sizeLine:=by rw [List.size_toArray,← hl];exact hz
 have hcap:¬ its.toArray.size*k.toNat > (2^63-1)/8:=by
   have:(sizeLine:Nat)≤(2^63-1)/8:=by decide
   omega
 have hfit:¬ (!Builtin.List.listFitsIndex k)=true:=by rw [fitsIndex_both h1 h2];exact Bool.false_ne_true
 have hlong:¬ Builtin.List.listTooLong (its.toArray.size*k.toNat)=true:=by rw [notLongL hlen];exact Bool.false_ne_true
 have hnew:List.foldl (fun x1 x2=>x1++x2) #[] (List.replicate (if its.toArray.isEmpty=true then 0 else k.toNat) its.toArray)=(List.replicate k.toNat its).flatten.toArray:=by
   have f0:∀ m:Nat,List.foldl (fun x1 x2=>x1++x2) #[] (List.replicate m its.toArray)=(List.replicate m its).flatten.toArray:=fun m=>by
     have:=ZfA its m [];rw [List.nil_append] at this;exact this
   rw [f0];cases its with
   | nil=>simp
   | cons a r'=>rw [if_neg (by simp)]
 refine wpAny_binaryOp_repeat_ref (T:="list") (U:="int") (by decide) ⟨_,e,rfl⟩ (fun s'=>typeIs_int s' k t) noFill_list_mul F.fills_int_mul F.slot_int_rmul repeat_list F.slot_int_index.lookup
   (call_meets F.slot_int_rmul (typeIs_int s k t) F.entry_int_rmul (F.args_int_rmul_2 _ _) (int___rmul___int_list k t l its.toArray n)
     ⟨e,rfl,⟨_,e,rfl⟩,call_meets F.slot_list_mul ⟨_,e,rfl⟩ F.entry_list_mul (F.args_list_mul_2 _ _) (AutoListH.list___mul___list_int_3 l its.toArray n k t hfit hcap hlong) ⟨e,?_⟩⟩)
 rw [hnew];exact ⟨.ref _,_,I.lnew (t':=s.toks) (r.rep k.toNat) (by rw [len_rep,Nat.mul_comm];exact hz),rfl,q _ I.fresh⟩
end
section
variable {prog:Program}{w:World}{A:Around}{E:Value→Shared→Prop}{s:Shared}
set_option maxRecDepth 100000 in
end
section
variable {X:Cx}
end
end L2
namespace Att
open PySem PySem.W PySem.Calls PyProof.Rows
theorem Zd8 {P:Params}{h:Heap}:∀ (ns:List Int) (vs:List Value),WellAll P h vs (ns.map WData.int)→IntsAre vs ns:=by
 intro ns;induction ns with
 | nil =>
   intro vs w;rw [List.map_nil] at w;cases w;exact .nil
 | cons n ns ih =>
   intro vs w;rw [List.map_cons] at w;cases w with
   | cons a b =>
     cases a;exact .cons _ _ (ih _ b)
theorem Zke {l:OpenLaw}{n:Nat}(hn:l.most=some n){P:Params}{h:Heap}{args:List WData}{vals:List Value}
   (hpre:l.row.toRowW.claim.pre args=true) (hwl:WellAll P h vals args) :
   ∃ a vs ns,vals=[Value.ref a]∧args=[WData.list (ns.map WData.int)]∧h.get? a=some { cls:=.type "list",data:=.seq vs.toArray }∧IntsAre vs ns∧ns.length≤n:=by
 have hsh:WShape.hasAll [] args [.list .int]=true:=(pre_splitW hpre).1;have hc:l.pre.holds [] { args:=args }=true:=(pre_splitW hpre).2;obtain ⟨d,r,rfl,h1,h2⟩:=hasAllW_cons hsh;obtain rfl:=hasAllW_nil h2;obtain ⟨xs,rfl,h3⟩:=hasW_list h1;obtain ⟨ns,rfl⟩:=items_int h3;have hlen:ns.length≤n:=by
   unfold OpenLaw.pre at hc;have h4:(WTm.not (.lt (.lit (.int (n:Int))) (.len (.arg 0)))).holds [] { args:=[.list (ns.map .int)] }=true:=by have h4:=(holds_andW hc).1;rw [hn] at h4;exact h4
   have h5:=condW_of h4 (w_not (w_lt w_lit (w_len_list (w_arg rfl))));rw [List.length_map] at h5;refine Nat.le_of_not_lt fun q=>?_
   have q':(n:Int)<((ns.length:Nat):Int):=by omega
   first
     | (rw [decide_eq_true q'] at h5;exact absurd h5 (by decide))
     | (simp at h5;omega)
 cases hwl with
 | cons w1 w2 =>
   cases w2;cases w1 with
   | list ho hall=>exact ⟨_,_,ns,rfl,rfl,ho,Zd8 ns _ hall,hlen⟩
theorem Zkw (l:OpenLaw)(args:List WData):l.row.toRowW.claim.post args (.bool true) args=true :=
 postW_of (r:=l.row.toRowW) (X:=(true==true))
   (show WShape.has [] (.bool true) .bool=true by first | rfl | decide | simp [WShape.has,WShape.arms,WShape.armsAll])
   (show (WTm.eq .res (.lit (.bool true))).value [] { args:=args,res:=some (.bool true),after:=args }=some (.bool (true==true)) from w_eq_bool (w_res rfl) w_lit) rfl
section
variable {prog:Program}{w:World}{A:Around}{E:Value→Shared→Prop}{s:Shared}{K:Frag}
end
end Att
namespace L2
open PySem PySem.Spec PyProof.Rows
theorem ZcA:∀ {vs:List Value} {ns:List Int},IntsAre vs ns→Vals (ns.map V.int) vs
 | _,_,.nil=>.nil
 | _,_,.cons n t h=>.cons ⟨t,rfl⟩ (ZcA h)
end L2
namespace L2
open PySem PySem.Spec PyProof.Rows
abbrev KOf {K:PySem.W.Frag}{h:Heap}(_:K.In h):PySem.W.Frag:=K
end L2
namespace L2
open PySem PySem.Spec PyProof.Rows
def inClass (s:Stmt)(j:Nat):Stmt:=match s with
 | .ClassDef _ _ _ body _ _ _ _ _ _ _=>body.getD j (.Pass ⟨0,0,0,0⟩)
 | _=>.Pass ⟨0,0,0,0⟩
def defArgs (s:Stmt):Arguments:=match s with
 | .FunctionDef _ a _ _ _ _ _ _ _ _=>a
 | _=>{ posonlyargs:=[],args:=[],vararg:=none,kwonlyargs:=[],kw_defaults:=[],kwarg:=none,defaults:=[] }
def defBody (s:Stmt):List Stmt:=match s with
 | .FunctionDef _ _ b _ _ _ _ _ _ _=>b
 | _=>[]
def defScope (s:Stmt):Scope:=match s with
 | .FunctionDef _ _ _ _ _ _ sc _ _ _=>sc
 | _=>{ kind:=.function,names:=[],isGenerator:=false,isCoroutine:=false }
abbrev CX0:CXT:=fun _ _ _ _ _ _=>False
abbrev E0:XK:=fun _ _ _=>False
theorem pass0 {X:Cx}:Passes CX0 X E0:=fun _ _ _ _ _ _ _ h=>h.elim
structure Fun (K:PySem.W.Frag)(x qual:Str)(st:Stmt)(f:Addr)(fd:FuncData):Prop where
 ex:∃ (oc:Value) (od:Option Addr) (kV doc pm:Value) (an:Option Addr) (cdv ct:Value) (osl:Array (Option Value)),
   fd=PySem.W.fnOf x qual (defArgs st) (defBody st) (defScope st) .none kV doc pm an cdv ct∧K.lookup f=some ⟨oc,od,.func fd,osl⟩∧PySem.W.codeIn K cdv qual=true
 kp:PySem.W.keepIn K (.ref f)=true
section
variable {P:Program}{w:World}{K:PySem.W.Frag}{mg:Str→Option Value}{base:Heap}
theorem Fun.ok {x qual:Str}{st:Stmt}{f:Addr}{fd:FuncData}{N ps:List Str}{k:Nat}{sp:Sp}(F:Fun K x qual st f fd)(S:FnScope N ps (defScope st))(len:∀ vs H Q E,sp vs H Q E→vs.length=ps.length)
   (hbody:∀ (cdv:Value) (A:Around) (outer:List Env) (s:Shared) (H:Hp) (vs:List V) (Q:VK) (E:XK),Room k (A.deeper (envOfC qual (defScope st) s.heap.objs.size f cdv))→sp vs H Q E →
     ∃ t,PSs (cxOf CX0 P w K mg base N qual (defScope st) f cdv A outer s H E).nox (defBody st) t∧t { nx:=fun _ H'=>Q .non H',rt:=Q } (start N vs) H):FnOk P w K mg base CX0 (k+1) f fd ps sp:=by
 obtain ⟨oc,od,kV,doc,pm,an,cdv,ct,osl,rfl,lk,hcd⟩:=F.ex;refine fn_of lk hcd S len fun A outer s H vs Q E hr hsp=>?_
 obtain ⟨t,h,q⟩:=hbody cdv A outer s H vs Q E hr hsp;exact ⟨t,h.nox,q⟩
theorem Fun.binds {x qual:Str}{st:Stmt}{f:Addr}{fd:FuncData}{ps:List Str}(F:Fun K x qual st f fd)
   (h:∀ (kV doc pm:Value) (an:Option Addr) (cdv ct:Value) (us:List Value),us.length=ps.length→bindArgs (PySem.W.fnOf x qual (defArgs st) (defBody st) (defScope st) .none kV doc pm an cdv ct) ⟨us,[]⟩=pure (ps.zip us)):Binds K fd ps []:=by
 obtain ⟨oc,od,kV,doc,pm,an,cdv,ct,osl,rfl,lk,hcd⟩:=F.ex;exact .all (h kV doc pm an cdv ct)
theorem ZcU {x qual:Str}{st:Stmt}{f:Addr}{oc:Value}{od an:Option Addr}{osl:Array (Option Value)}{kV doc pm cdv ct:Value}(l:K.lookup f=some ⟨oc,od,.func (PySem.W.fnOf x qual (defArgs st) (defBody st) (defScope st) .none kV doc pm an cdv ct),osl⟩)
   (c:PySem.W.codeIn K cdv qual=true) (k:PySem.W.keepIn K (.ref f)=true):Fun K x qual st f (PySem.W.fnOf x qual (defArgs st) (defBody st) (defScope st) .none kV doc pm an cdv ct):=⟨⟨oc,od,kV,doc,pm,an,cdv,ct,osl,rfl,l,c⟩,k⟩
end
theorem small1000 {n:Nat}(h:n≤1000):n<sizeLine:=Nat.lt_of_le_of_lt h (by decide)
section
variable {X:Cx}
theorem pv (i:Nat){x:Str}{pos:Pos}(hN:X.N[i]?=some x:=by rfl)(hv:Vis X.env.scope x:=by first | exact Or.inl rfl | exact Or.inr (Or.inl rfl) | exact Or.inr (Or.inr rfl))(hd:(x==("__debug__":Str))=false:=by decide)
   (hcd:(x==("__classdict__":Str))=false:=by decide):PE X (.Name x pos) (tVar i):=pe_var hN hv hd hcd
end
def Same (H H':Hp):Prop:=∀ b o,H b=some o→H' b=some o
theorem Same.refl (H:Hp):Same H H:=fun _ _ h=>h
theorem Same.trans {H H1 H2:Hp}(a:Same H H1)(b:Same H1 H2):Same H H2:=fun c o h=>b c o (a c o h)
theorem Same.free {H H':Hp}(e:Same H H'){l:Addr}(h:H' l=Option.none):H l=Option.none:=by
 cases q:H l with
 | none=>rfl
 | some o =>
   rw [e l o q] at h;cases h
theorem Same.seq {K:PySem.W.Frag}{H H':Hp}{a:Addr}{xs:List V}(e:Same H H')(h:SqL K H a xs):SqL K H' a xs:=by
 rcases h with (h | ⟨o,h⟩) | h
 · exact .inl (.inl (e _ _ h))
 · exact .inl (.inr ⟨o,e _ _ h⟩)
 · exact .inr h
end L2
namespace L2
open PySem PySem.Spec PyProof.Rows
section
variable {κ:Type}[DecidableEq κ]
def valV (kvs:List (κ × V))(k:κ):Option V:=(kvs.find? fun kv=>decide (kv.1=k)).map (·.2)
def putK (kvs:List (κ × V))(k:κ)(v:V):List (κ × V) :=
 if (kvs.any fun kv=>decide (kv.1=k))=true then kvs.map (fun kv=>if kv.1=k then (kv.1,v) else kv) else kvs++[(k,v)]
theorem ZaV {p:κ × V}{r:List (κ × V)}{k:κ}(e:p.1=k):valV (p::r) k=some p.2:=by simp [valV,List.find?_cons,e]
theorem ZaW {p:κ × V}{r:List (κ × V)}{k:κ}(e:¬ p.1=k):valV (p::r) k=valV r k:=by simp [valV,List.find?_cons,e]
theorem ZbG (k:κ):∀ kvs:List (κ × V),(kvs.any fun kv=>decide (kv.1=k))=(valV kvs k).isSome
 | []=>rfl
 | p::r=>by
   rw [List.any_cons];by_cases e:p.1=k
   · simp only [ZaV e,decide_eq_true e,Bool.true_or,Option.isSome_some]
   · rw [ZaW e,decide_eq_false e,Bool.false_or];exact ZbG k r
theorem Zhy (k j:κ)(y:V):∀ kvs:List (κ × V),valV (kvs.map fun kv=>if kv.1=k then (kv.1,y) else kv) j=(valV kvs j).map fun x=>if j=k then y else x
 | []=>rfl
 | p :: r=>by
   have ih:=Zhy k j y r;rw [List.map_cons];by_cases h:p.1=k
   · rw [if_pos h]
     by_cases e:p.1=j
     · rw [ZaV (p:=(p.1,y)) e,ZaV e,Option.map_some,if_pos (e.symm.trans h)]
     · rw [ZaW (p:=(p.1,y)) e,ZaW e,ih]
   · rw [if_neg h]
     by_cases e:p.1=j
     · rw [ZaV (p:=p) e,ZaV e,Option.map_some,if_neg (fun z=>h (e.trans z))]
     · rw [ZaW (p:=p) e,ZaW e,ih]
theorem Zfz (k j:κ)(y:V):∀ kvs:List (κ × V),valV kvs k=none→valV (kvs++[(k,y)]) j=if j=k then some y else valV kvs j
 | [],_=>by
   by_cases e:k=j
   · rw [if_pos e.symm];exact ZaV (p:=(k,y)) e
   · rw [if_neg (fun z=>e z.symm)];exact ZaW (p:=(k,y)) e
 | p::r,hn=>by
   rw [List.cons_append];have hk:¬ p.1=k:=fun z=>by rw [ZaV z] at hn;cases hn
   rw [ZaW hk] at hn;have ih:=Zfz k j y r hn;by_cases e:p.1=j
   · rw [ZaV e,ZaV e,if_neg (fun z=>hk (e.trans z))]
   · rw [ZaW e,ZaW e,ih]
theorem valV_put (kvs:List (κ × V))(k j:κ)(y:V):valV (putK kvs k y) j=if j=k then some y else valV kvs j:=by
 unfold putK;by_cases a:(kvs.any fun kv=>decide (kv.1=k))=true
 · rw [if_pos a,Zhy]
   rw [ZbG] at a;by_cases e:j=k
   · obtain ⟨x,hx⟩:=Option.isSome_iff_exists.mp a
     rw [if_pos e,e,hx,Option.map_some,if_pos rfl]
   · rw [if_neg e]
     cases valV kvs j with
     | none=>rfl
     | some x=>rw [Option.map_some,if_neg e]
 · rw [if_neg a]
   refine Zfz k j y kvs ?_;rw [ZbG] at a;cases q:valV kvs k with
   | none=>rfl
   | some x=>rw [q] at a;exact (a rfl).elim
theorem ZdY (kvs:List (κ × V))(k:κ)(v:V):(putK kvs k v).length≤kvs.length+1:=by
 unfold putK;split
 · rw [List.length_map];omega
 · rw [List.length_append,List.length_cons,List.length_nil];omega
theorem RelO.isSome_eq {o:Option V}{u:Option Value}(r:RelO o u):o.isSome=u.isSome:=by
 cases o with
 | none=>cases u with
   | none=>rfl
   | some _=>exact (show False from r).elim
 | some _=>cases u with
   | none=>exact (show False from r).elim
   | some _=>rfl
theorem RelO.getD {o:Option V}{u:Option Value}{d:V}{d':Value}(r:RelO o u)(rd:RelV d d'):RelV (o.getD d) (u.getD d'):=by
 cases o with
 | none=>cases u with
   | none=>exact rd
   | some _=>exact (show False from r).elim
 | some _=>cases u with
   | none=>exact (show False from r).elim
   | some _=>exact r
theorem KV.val {kvs:List (κ × V)}{vs:List (κ × Value)}(r:KV kvs vs)(k:κ):RelO (valV kvs k) (valueAt vs k):=by
 unfold KV at r;induction r with
 | nil=>exact True.intro
 | @cons p q ps qs h t ih =>
   obtain ⟨h1,h2⟩:=h;by_cases e:p.1=k
   · have e':q.1=k:=h1.symm.trans e
     have b:valueAt (q::qs) k=some q.2:=by simp [valueAt,List.find?_cons,e']
     rw [ZaV e,b];exact h2
   · have e':¬ q.1=k:=fun z=>e (h1.trans z)
     have b:valueAt (q::qs) k=valueAt qs k:=by simp [valueAt,List.find?_cons,e']
     rw [ZaW e,b];exact ih
theorem KV.any {kvs:List (κ × V)}{vs:List (κ × Value)}(r:KV kvs vs)(k:κ):(kvs.any fun kv=>decide (kv.1=k))=vs.any fun kv=>decide (kv.1=k):=by
 unfold KV at r;induction r with
 | nil=>rfl
 | cons h t ih=>rw [List.any_cons,List.any_cons,ih,h.1]
theorem KV.repl {kvs:List (κ × V)}{vs:List (κ × Value)}(r:KV kvs vs)(k:κ){y:V}{u:Value}(ry:RelV y u) :
   KV (kvs.map fun kv=>if kv.1=k then (kv.1,y) else kv) (vs.map fun kv=>if kv.1=k then (kv.1,u) else kv):=by
 unfold KV at r ⊢;induction r with
 | nil=>exact .nil
 | @cons p q ps qs h t ih =>
   rw [List.map_cons,List.map_cons];refine .cons ?_ ih;obtain ⟨h1,h2⟩:=h;by_cases e:p.1=k
   · rw [if_pos e,if_pos (h1.symm.trans e)];exact ⟨h1,ry⟩
   · rw [if_neg e,if_neg (fun z=>e (h1.trans z))];exact ⟨h1,h2⟩
theorem KV.put {kvs:List (κ × V)}{vs:List (κ × Value)}(r:KV kvs vs)(k:κ){y:V}{u:Value}(ry:RelV y u):KV (putK kvs k y) (stored vs k u):=by
 unfold putK stored;rw [r.any k];by_cases e:(vs.any fun kv=>decide (kv.1=k))=true
 · rw [if_pos e,if_pos e];exact r.repl k ry
 · rw [if_neg e,if_neg e];exact Paired.snoc r ⟨rfl,ry⟩
theorem KV.keys {kvs:List (κ × V)}{vs:List (κ × Value)}(r:KV kvs vs):kvs.map (·.1)=vs.map (·.1):=by
 unfold KV at r;induction r with
 | nil=>rfl
 | cons h t ih=>rw [List.map_cons,List.map_cons,ih,h.1]
theorem KV.length {kvs:List (κ × V)}{vs:List (κ × Value)}(r:KV kvs vs):kvs.length=vs.length:=Paired.length r
end
theorem kV_is {P:Program}{w:World}{k:Key}{u:Value}(r:RelV (kV k) u):(mixKind P w).is k u=true:=by
 cases k with
 | inl i=>obtain ⟨t,e⟩:=(show ∃ t,u=Value.int i t from r);subst e;exact Zg8 P w i t
 | inr x=>obtain ⟨t,e⟩:=(show ∃ t,u=Value.str x t from r);subst e;exact ZgR P w x t
theorem ZfL {P:Program}{w:World}:∀ {ks:List Key} {us:List Value},Vals (ks.map kV) us→ItemsAre (mixKind P w) ks us
 | [],_,r=>by rw [List.map_nil] at r;cases r;exact .nil
 | k::ks,_,r=>by
   rw [List.map_cons] at r;cases r with
   | cons h t=>exact .cons (kV_is h) (ZfL t)
abbrev KT (H:Hp):List (List Key × V)→List (List Key × Addr × Value)→Prop:=Paired fun p q=>p.1=q.1∧H q.2.1=some (.tup (p.1.map kV))∧RelV p.2 q.2.2
theorem KT.val {H:Hp}{kvs:List (List Key × V)}{xs:List (List Key × Addr × Value)}(r:KT H kvs xs)(k:List Key):RelO (valV kvs k) ((atKey xs k).map (·.2)):=by
 induction r with
 | nil=>exact True.intro
 | @cons p q ps qs h t ih =>
   obtain ⟨h1,_,h2⟩:=h;by_cases e:p.1=k
   · have e':q.1=k:=h1.symm.trans e
     have b:atKey (q::qs) k=some q.2:=by simp [atKey,List.find?_cons,e']
     rw [ZaV e,b];exact h2
   · have e':¬ q.1=k:=fun z=>e (h1.trans z)
     have b:atKey (q::qs) k=atKey qs k:=by simp [atKey,List.find?_cons,e']
     rw [ZaW e,b];exact ih
theorem KT.repl {H:Hp}{kvs:List (List Key × V)}{xs:List (List Key × Addr × Value)}(r:KT H kvs xs)(k:List Key){y:V}{u:Value}(ry:RelV y u) :
   KT H (kvs.map fun kv=>if kv.1=k then (kv.1,y) else kv) (xs.map (putAt k u)):=by
 induction r with
 | nil=>exact .nil
 | @cons p q ps qs h t ih =>
   rw [List.map_cons,List.map_cons];refine .cons ?_ ih;obtain ⟨h1,h2,h3⟩:=h;unfold putAt;by_cases e:p.1=k
   · rw [if_pos e,if_pos (h1.symm.trans e)];exact ⟨h1,h2,ry⟩
   · rw [if_neg e,if_neg (fun z=>e (h1.trans z))];exact ⟨h1,h2,h3⟩
theorem KT.put {H:Hp}{kvs:List (List Key × V)}{xs:List (List Key × Addr × Value)}(r:KT H kvs xs)(k:List Key){b:Addr}{y:V}{u:Value}(hb:H b=some (.tup (k.map kV)))(ry:RelV y u) :
   KT H (putK kvs k y) (storedH xs k b u):=by
 have e:(kvs.any fun kv=>decide (kv.1=k))=(atKey xs k).isSome:=by rw [ZbG,(r.val k).isSome_eq,Option.isSome_map]
 unfold putK storedH;rw [e];by_cases q:(atKey xs k).isSome=true
 · rw [if_pos q,if_pos q];exact r.repl k ry
 · rw [if_neg q,if_neg q];exact Paired.snoc r ⟨rfl,hb,ry⟩
theorem KT.keeps {H H':Hp}{kvs:List (List Key × V)}{xs:List (List Key × Addr × Value)}(r:KT H kvs xs)(ht:∀ b ys,H b=some (.tup ys)→H' b=some (.tup ys)):KT H' kvs xs :=
 Paired.mapP r fun _ _ z=>⟨z.1,ht _ _ z.2.1,z.2.2⟩
section
variable {P:Program}{w:World}{H:Hp}{h:Heap}{a:Addr}
theorem rd_of {u:HO}(ok:HOk P w H h)(e:Rd H a u):ObjOk P w H h a u:=e.ok ok
theorem Zhd {kvs:List (Key × V)}(ok:HOk P w H h)(e:Rd H a (.dK kvs)):kvs.length≤sizeLine∧(a==sysModules)=false∧∃ vs,KV kvs vs∧h.DictOf (mixKind P w) a vs :=
 show ObjOk P w H h a (.dK kvs) from rd_of ok e
theorem dk_of {kvs:List (Key × V)}(ok:HOk P w H h)(e:H a=some (.dK kvs)):kvs.length≤sizeLine∧(a==sysModules)=false∧∃ vs,KV kvs vs∧h.DictOf (mixKind P w) a vs:=Zhd ok (.inl e)
theorem Zgu {ks:List Key}(ok:HOk P w H h)(e:H a=some (.tup (ks.map kV))):(tupleKind (mixKind P w)).is h ks a:=by
 obtain ⟨_,its,r,o,h1,h2,n,h3⟩:=(show ObjOk P w H h a (.tup (ks.map kV)) from ok a _ e)
 exact ⟨o,its.toArray,n,h1,h2,h3,by simpa using ZfL r⟩
theorem Zg9 {kvs:List (List Key × V)} (ok:HOk P w H h) (e:Rd H a (.dT kvs)):kvs.length≤sizeLine∧(a==sysModules)=false ∧
   ∃ xs,KT H kvs xs∧h.DictOfH (tupleKind (mixKind P w)) a xs:=by
 obtain ⟨z,y,xs,r,o,es,ep,h1,h2,h3,h4,h5⟩:=(show ObjOk P w H h a (.dT kvs) from rd_of ok e)
 refine ⟨z,y,xs,r,o,es,ep,h1,h2,h3,h4,fun x hx=>?_,h5⟩;have all:∀ {l:List (List Key × V)} {m:List (List Key × Addr × Value)},KT H l m→∀ x∈m,(tupleKind (mixKind P w)).is h x.1 x.2.1:=by
   intro l m q;induction q with
   | nil=>intro x hx;exact nomatch hx
   | @cons p q ps qs hq t ih =>
     intro x hx;rcases List.mem_cons.mp hx with e | hx
     · subst e
       exact Zgu ok (by rw [← hq.1];exact hq.2.1)
     · exact ih x hx
 exact all r x hx
theorem dt_of {kvs:List (List Key × V)}(ok:HOk P w H h)(e:H a=some (.dT kvs)):kvs.length≤sizeLine∧(a==sysModules)=false ∧
   ∃ xs,KT H kvs xs∧h.DictOfH (tupleKind (mixKind P w)) a xs:=Zg9 ok (.inl e)
end
def DGet (H:Hp)(a:Addr)(y:V)(r:Option V):Prop :=
 (∃ kvs k,Rd H a (.dK kvs)∧y=kV k∧r=valV kvs k)∨∃ kvs k b,Rd H a (.dT kvs)∧y=.ref b∧H b=some (.tup (k.map kV))∧r=valV kvs k
def DPut (H:Hp)(a:Addr)(y v:V)(H':Hp):Prop :=
 (∃ kvs k,H a=some (.dK kvs)∧y=kV k∧kvs.length<sizeLine∧H'=upd H a (.dK (putK kvs k v))) ∨
 ∃ kvs k b,H a=some (.dT kvs)∧y=.ref b∧H b=some (.tup (k.map kV))∧kvs.length<sizeLine∧H'=upd H a (.dT (putK kvs k v))
theorem DGet.k {H:Hp}{a:Addr}{kvs:List (Key × V)}{k:Key}(e:H a=some (.dK kvs)):DGet H a (kV k) (valV kvs k):=.inl ⟨kvs,k,.inl e,rfl,rfl⟩
theorem DPut.k {H:Hp}{a:Addr}{kvs:List (Key × V)}{k:Key}{v:V}(e:H a=some (.dK kvs))(hl:kvs.length<sizeLine):DPut H a (kV k) v (upd H a (.dK (putK kvs k v))):=.inl ⟨kvs,k,e,rfl,hl,rfl⟩
section
variable {X:Cx}{pins:List (Addr × Obj)}{σ:St}{H:Hp}{s:Shared}{a:Addr}{y v:V}{u r:Value}{o:Option V}{A:Around}{E:Value→Shared→Prop}
theorem Inv.big (I:Inv X pins σ H s):sysModules<s.heap.objs.size:=by have h:mainGlobals<s.heap.objs.size:=(I.mod.glob.keeps I.bk).lt;exact Nat.lt_trans (by decide) h
theorem Zka {Q:Value→Shared→Prop}(hu:A.units+1<cLine)(I:Inv X pins σ H s)(g:DGet H a y (some v))(ry:RelV y u)(h:∀ w' s',Inv X pins σ H s'→RelV v w'→Q w' s') :
   wpAny (model X.prog X.w) A (getItem (.ref a) u) Q E s:=by
 rcases g with ⟨kvs,k,e,ey,l⟩ | ⟨kvs,k,b,e,ey,eb,l⟩
 · subst ey
   obtain ⟨z,hd,vs,rel,dd⟩:=Zhd I.hok e;obtain ⟨w',hw,rw'⟩:=RelO.some_of (v:=v) (o:=valueAt vs k) (by rw [l];exact rel.val k);exact wpAny_getItem_of (kV_is ry) dd.mapOf hw (h w' _ (I.tok _) rw')
 · subst ey
   cases (show u=Value.ref b from ry);obtain ⟨z,hd,xs,rel,dd⟩:=Zg9 I.hok e;obtain ⟨w',hw,rw'⟩:=RelO.some_of (v:=v) (o:=(atKey xs k).map (·.2)) (by rw [l];exact rel.val k);obtain ⟨p,hp,hp2⟩:=Option.map_eq_some_iff.mp hw;refine wpAny_getItem_heap (tupleKind_room_in1 hu) (Zgu I.hok eb) dd hp ?_;rw [hp2];exact h w' _ (I.tok _) rw'
theorem ZiS {h':Heap}{t':Nat}{ob:HO}(I:Inv X pins σ H s)(mu:Mut (H a))(hs:Heap.SameBut a s.heap h')(he:∃ q,h'.get? a=some q)(new:ObjOk X.prog X.w (upd H a ob) h' a ob) :
   Inv X pins σ (upd H a ob) { s with heap:=h',toks:=t' } :=
 I.write (x:=a) (e:=a) mu (.inl rfl) (fun b q hb z=>(hs.2 b hb).trans z) he new
theorem dk_new {P:Program}{w:World}{H':Hp}{h':Heap}{kvs:List (Key × V)}{vs:List (Key × Value)}(z:kvs.length≤sizeLine)(hd:(a==sysModules)=false)(rel:KV kvs vs)(dd:h'.DictOf (mixKind P w) a vs) :
   ObjOk P w H' h' a (.dK kvs):=⟨z,hd,vs,rel,dd⟩
theorem Zkd {H':Hp}{Q:Unit→Shared→Prop}(hu:A.units+1<cLine)(I:Inv X pins σ H s)(g:DPut H a y v H')(ry:RelV y u)(rv:RelV v r)(h:∀ s',Inv X pins σ H' s'→Q () s') :
   wpAny (model X.prog X.w) A (setItem (.ref a) u r) Q E s:=by
 rcases g with ⟨kvs,k,e,ey,l,eH⟩ | ⟨kvs,k,b,e,ey,eb,l,eH⟩
 · subst ey eH
   obtain ⟨z,hd,vs,rel,dd⟩:=dk_of I.hok e;have hz:vs.length≤sizeLine:=by rw [← rel.length];exact z
   have hl:(putK kvs k v).length≤sizeLine:=by have:=ZdY kvs k v;omega
   refine wpAny_setItem_pairs (hsz:=hz) (kV_is ry) dd fun h' dd' hs=>h _ ?_
   have he:∃ q,h'.get? a=some q:=let ⟨q,_,_,hq,_⟩:=dd';⟨q,hq⟩
   exact ZiS I (by rw [e];exact True.intro) hs he (dk_new hl hd (rel.put k rv) dd')
 · subst ey eH
   cases (show u=Value.ref b from ry);obtain ⟨z,hd,xs,rel,dd⟩:=dt_of I.hok e;have hz:xs.length≤sizeLine:=by rw [← Paired.length rel];exact z
   have hl:(putK kvs k v).length≤sizeLine:=by have:=ZdY kvs k v;omega
   refine wpAny_setItem_heap (hsz:=hz) (tupleKind_room_in1 hu) (Zgu I.hok eb) dd fun h' dd' hs=>h _ ?_
   obtain ⟨q,es,ep,hq,h2,h3,h4,_,h5⟩:=dd';refine ZiS I (by rw [e];exact True.intro) hs ⟨q,hq⟩ ⟨hl,hd,_,(rel.put k eb rv).keeps fun c ys ec=>?_,q,es,ep,hq,h2,h3,h4,h5⟩;rw [Zag (ne_of ec e (fun z=>nomatch z))];exact ec
end
section
variable {X:Cx}{pins:List (Addr × Obj)}{σ:St}{H:Hp}{s:Shared}{a:Addr}{kvs:List (Key × V)}{k:Key}{u:Value}{A:Around}{E:Value→Shared→Prop}
end
def NoSl (i:Expr):Prop:=∀ ov iv,subscripted i false ov iv=operate [ov,iv] (getItem ov iv)
theorem subD_of {prog:Program}{w:World}{A:Around}{E:Value→Shared→Prop}{s:Shared}{env:Env}{value slice:Expr}{pos:Pos}{T id:String}{Q:Value→Shared→Prop}
   (hl:typeLookup (.type T) "__getitem__"=pure (some (.builtin id))) (hs:NoSl slice)
   (h:wpAny (model prog w) A (eval value env) (fun o s₁=>wpAny (model prog w) A (eval slice env) (fun i s₂=>s₂.TypeIs o T∧wpAny (model prog w) A (getItem o i) Q E s₂) E s₁) E s) :
   wpAny (model prog w) A (eval (.Subscript value slice pos) env) Q E s:=by
 refine Subscript_ (wpAny_mono h (fun o s₁ h₁=>wpAny_mono h₁ (fun i s₂ h₂=>?_) fun _ _ x=>x) fun _ _ x=>x);obtain ⟨hT,h₂⟩:=h₂;unfold subscriptTail;refine wpAny_bind ?_;rw [getitemInPython_of_ne hT.not_modules];refine wpAny_bind (wpAny_specialOf hT hl ?_);have fin:wpAny (model prog w) A (subscripted slice false o i) (fun r s₃=>wpAny (model prog w) A (letTemporaryGo value o r >>= fun _=>pure r) Q E s₃) E s₂:=by rw [hs o i];exact wpAny_operating (wpAny_mono h₂ (fun r s₃ h₃=>wpAny_bind (wpAny_letTemporaryGo (wpAny_pure h₃))) fun _ _ x=>x)
 first
   | exact wpAny_pure (wpAny_bind fin)
   | exact wpAny_bind (wpAny_pure (wpAny_bind fin))
   | exact wpAny_bind fin
theorem ZhR {X:Cx}{pins:List (Addr × Obj)}{σ:St}{H:Hp}{s:Shared}{a:Addr}{y:V}{o:Option V}(I:Inv X pins σ H s)(g:DGet H a y o):s.TypeIs (.ref a) "dict":=by
 rcases g with ⟨kvs,k,e,_,_⟩ | ⟨kvs,k,b,e,_,_,_⟩
 · obtain ⟨_,_,vs,_,dd⟩:=Zhd I.hok e
   exact dd.typeIs
 · obtain ⟨_,_,xs,_,dd⟩:=Zg9 I.hok e
   exact dd.typeIs
def tDGet (td ty:TE):TE:=fun σ H Q=>td σ H fun x H1=>ty σ H1 fun y H2=>∃ a v,x=.ref a∧DGet H2 a y (some v)∧Q v H2
def sDPut (td ty tv:TE):TS:=fun D σ H=>tv σ H fun v H1=>td σ H1 fun x H2=>ty σ H2 fun y H3=>∃ a H4,x=.ref a∧DPut H3 a y v H4∧D.nx σ H4
section
variable {X:Cx}{o i e value:Expr}{pos pos' tpos:Pos}{td ty tv:TE}
theorem pe_dget (hu:X.A.units+1<cLine)(ho:PE X o td)(hi:PE X i ty)(hs:NoSl i):PE X (.Subscript o i pos) (tDGet td ty):=by intro pins s σ H Q I h;refine subD_of PySem.F.slot_dict_getitem.lookup hs (thn (ho pins s σ H _ I h) fun u s1 ⟨x,H1,I1,rx,q1⟩=>thn (hi pins s1 σ H1 _ I1 q1) fun iv s2 ⟨y,H2,I2,ry,a,v,ex,g,q2⟩=>?_);subst ex;obtain rfl:u=Value.ref a:=rx;exact ⟨ZhR I2 g,Zka hu I2 g ry fun w' s3 I3 rw'=>⟨v,H2,I3,rw',q2⟩⟩
theorem Zea (hu:X.A.units+1<cLine)(ho:PE X o td)(hi:PE X i ty)(hv:PE X value tv)(hs:swapsWith value (some (.Subscript o i pos')) pos.line X.env=pure false) :
   PS X (.Assign [.Subscript o i pos'] value pos) (sDPut td ty tv):=by
 intro pins s σ H D I h;refine wpAny_Assign_Subscript (thn (hv pins s σ H _ I h) fun r s1 ⟨v,H1,I1,rv,q1⟩=>thn (ho pins s1 σ H1 _ I1 q1) fun u s2 ⟨x,H2,I2,rx,q2⟩=>thn (hi pins s2 σ H2 _ I2 q2) fun iv s3 ⟨y,H3,I3,ry,a,H4,ex,g,q3⟩=>?_) hs;subst ex;obtain rfl:u=Value.ref a:=rx;exact Zkd hu I3 g ry rv fun s4 I4=>⟨σ,H4,I4,q3⟩
end
theorem dk_empty {P:Program}{w:World}{H:Hp}(h:Heap)(hb:sysModules<h.objs.size):ObjOk P w H (h.push { cls:=.type "dict",data:=.dict #[] }) h.objs.size (.dK []) :=
 ⟨Nat.zero_le _,beq_eq_false_iff_ne.mpr (Ne.symm (Nat.ne_of_lt hb)),[],.nil,Heap.DictOf.new h⟩
def tDNewK:TE:=fun _ H Q=>∀ p,H p=none→Q (.ref p) (upd H p (.dK []))
section
variable {X:Cx}{pos:Pos}
theorem ZeB:PE X (.Dict [] [] pos) tDNewK:=fun pins s σ H Q I h =>
 wpAny_Dict_empty ⟨.ref s.heap.objs.size,_,I.laid (a:=s.heap.objs.size) (o:=.dK []) (t':=s.toks) (fun _ _ q=>Heap.get?_push_of_some _ q) (Nat.le_refl _) (dk_empty s.heap I.big),rfl,h _ (I.hok.fresh (Nat.le_refl _))⟩
end
structure M1 (X:Cx)(o:Expr)(m:Str)(apos:Pos)(e:Expr)(cpos:Pos):Prop where
 base:attributeBase o m X.env (eval o X.env)=eval o X.env
 few:((backTo cpos (starEach [e] X.env)).all (fun x=>!x.1)&&(backToKw cpos (keywordEach [] X.env)).all (fun x=>x.1.isSome)
   && decide (([e]:List Expr).length+([]:List Keyword).length+(if ([]:List Keyword).isEmpty then 0 else 1)<30))=true
 line:(apos.endLine==cpos.line)=true
 trees:backTo cpos (starEach [e] X.env)=[(false,eval e X.env)]
structure M2 (X:Cx)(o:Expr)(m:Str)(apos:Pos)(e f:Expr)(cpos:Pos):Prop where
 base:attributeBase o m X.env (eval o X.env)=eval o X.env
 few:((backTo cpos (starEach [e,f] X.env)).all (fun x=>!x.1)&&(backToKw cpos (keywordEach [] X.env)).all (fun x=>x.1.isSome)
   && decide (([e,f]:List Expr).length+([]:List Keyword).length+(if ([]:List Keyword).isEmpty then 0 else 1)<30))=true
 line:(apos.endLine==cpos.line)=true
 trees:backTo cpos (starEach [e,f] X.env)=[(false,eval e X.env),(false,eval f X.env)]
def IsD (H:Hp)(a:Addr):Prop:=(∃ kvs,Rd H a (.dK kvs))∨∃ kvs,Rd H a (.dT kvs)
theorem isD_at {X:Cx}{pins:List (Addr × Obj)}{σ:St}{H:Hp}{s:Shared}{a:Addr}(I:Inv X pins σ H s)(d:IsD H a) :
   s.TypeIs (.ref a) "dict"∧(∀ b,Value.ref a=.ref b→∃ ob,s.heap.get? b=some ob∧ob.dict=none)∧(a==sysModules)=false:=by
 rcases d with ⟨kvs,e⟩ | ⟨kvs,e⟩
 · obtain ⟨_,hd,vs,_,dd⟩:=Zhd I.hok e
   refine ⟨dd.typeIs,fun b q=>?_,hd⟩;cases q;obtain ⟨ob,_,_,h1,h2,_⟩:=dd;exact ⟨ob,h1,h2.2.1⟩
 · obtain ⟨_,hd,xs,_,dd⟩:=Zg9 I.hok e
   refine ⟨dd.typeIs,fun b q=>?_,hd⟩;cases q;obtain ⟨ob,_,_,h1,h2,_⟩:=dd;exact ⟨ob,h1,h2.2.1⟩
section
variable {X:Cx}{pins:List (Addr × Obj)}{σ:St}{H:Hp}{s:Shared}{a:Addr}{y d:V}{u r:Value}{o:Option V}{A:Around}{E:Value→Shared→Prop}
theorem d_get2 {Q:Value→Shared→Prop}(hu:A.units+1<cLine)(I:Inv X pins σ H s)(g:DGet H a y o)(ry:RelV y u)(rd:RelV d r)(h:∀ w' s',Inv X pins σ H s'→RelV (o.getD d) w'→Q w' s') :
   wpAny (model X.prog X.w) A (call (.builtin "dict.get") [.ref a,u,r]) Q E s:=by
 rcases g with ⟨kvs,k,e,ey,l⟩ | ⟨kvs,k,b,e,ey,eb,l⟩
 · subst ey
   obtain ⟨z,hd,vs,rel,dd⟩:=Zhd I.hok e;refine call_meetsIn PySem.F.slot_dict_get dd.typeIs PySem.F.entry_dict_get (PySem.F.args_dict_get_3 _ _ _) (meets_dict_get_default (mixKind X.prog X.w) a (kV_is ry) hd r) ⟨_,dd.mapOf,h _ _ (I.tok _) ?_⟩;rw [l];exact (rel.val k).getD rd
 · subst ey
   cases (show u=Value.ref b from ry);obtain ⟨z,hd,xs,rel,dd⟩:=Zg9 I.hok e;refine call_meetsIn PySem.F.slot_dict_get dd.typeIs PySem.F.entry_dict_get (PySem.F.args_dict_get_3 _ _ _) (meetsH_dict_get_default (tupleKind (mixKind X.prog X.w)) a b hd r) ⟨tupleKind_room_in1 hu,k,xs,Zgu I.hok eb,dd,h _ _ (I.tok _) ?_⟩;rw [l];exact (rel.val k).getD rd
end
def tDGet2 (td ty tx:TE):TE:=fun σ H Q=>td σ H fun x H1=>∃ a,x=.ref a∧IsD H1 a∧ty σ H1 fun y H2=>tx σ H2 fun z H3=>∃ o,DGet H3 a y o∧Q (o.getD z) H3
section
variable {X:Cx}{o e f:Expr}{apos cpos:Pos}{td ty tx:TE}
theorem pe_dget2 (hu:X.A.units+1<cLine)(ho:PE X o td)(he:PE X e ty)(hf:PE X f tx)(m:M2 X o "get" apos e f cpos):PE X (.Call (.Attribute o "get" apos) [e,f] [] cpos) (tDGet2 td ty tx):=by
 intro pins s σ H Q I h;refine wpAny_Call_method m.base m.few m.line PySem.F.plainAttrs_dict PySem.F.slot_dict_get PySem.F.type_dict_get (thn (ho pins s σ H _ I h) fun u s1 ⟨x,H1,I1,rx,a,ex,d,q1⟩=>?_);subst ex;obtain rfl:u=Value.ref a:=rx;obtain ⟨t1,t2,_⟩:=isD_at I1 d;refine ⟨t1,t2,?_⟩;rw [m.trees];refine Calls.callWith_builtin rfl (Calls.evalArgs_plain (Calls.spliced_cons (thn (he pins s1 σ H1 _ I1 q1) fun iv s2 ⟨y,H2,I2,ry,q2⟩ =>
   Calls.spliced_cons (thn (hf pins s2 σ H2 _ I2 q2) fun fv s3 ⟨z,H3,I3,rz,ov,g,q3⟩=>Calls.spliced_nil ?_))))
 exact d_get2 hu I3 g ry rz fun w' s4 I4 rw'=>⟨_,H3,I4,rw',q3⟩
end
section
variable {X:Cx}{pins:List (Addr × Obj)}{σ:St}{H:Hp}{s:Shared}{a:Addr}{kvs:List (Key × V)}{A:Around}{E:Value→Shared→Prop}
end
section
variable {X:Cx}{pins:List (Addr × Obj)}{σ:St}{H:Hp}{s:Shared}{a:Addr}{y:V}{u:Value}{A:Around}{E:Value→Shared→Prop}
end
section
variable {X:Cx}
end
section
variable {κ:Type}[DecidableEq κ]
theorem Zjh:∀ {l:List κ} {k:κ},l.Nodup→¬ k∈l→(l++[k]).Nodup
 | [],k,_,_=>by simp
 | a::r,k,h,hk=>by
   obtain ⟨h1,h2⟩:=List.nodup_cons.mp h;show (a::(r++[k])).Nodup;refine List.nodup_cons.mpr ⟨fun m=>?_,Zjh h2 fun m=>hk (List.mem_cons.mpr (Or.inr m))⟩;rcases List.mem_append.mp m with q | q
   · exact h1 q
   · exact hk (List.mem_cons.mpr (Or.inl (List.mem_singleton.mp q).symm))
end
end L2
namespace BM
open PySem L2 PyProof.Rows
def wd:List Nat→Nat
 | []=>0
 | p::r=>2^p+wd r
def Up:Nat→List Nat→Prop
 | _,[]=>True
 | a,p::r=>a≤p∧Up (p+1) r
theorem Up.mono:∀ {a b:Nat} {ps:List Nat},Up b ps→a≤b→Up a ps
 | _,_,[],_,_=>trivial
 | _,_,_::_,h,e=>⟨Nat.le_trans e h.1,h.2⟩
theorem Up.filter {p:Nat→Bool}:∀ {a:Nat} {ps:List Nat},Up a ps→Up a (ps.filter p)
 | _,[],_=>trivial
 | a,q::r,h=>by
   rw [List.filter_cons];split
   · exact ⟨h.1,Up.filter h.2⟩
   · exact (Up.filter h.2).mono (Nat.le_trans h.1 (Nat.le_succ _))
theorem Up.dvd:∀ {a:Nat} {ps:List Nat},Up a ps→2^a ∣ wd ps
 | _,[],_=>Nat.dvd_zero _
 | a,p::r,h=>Nat.dvd_add (Nat.pow_dvd_pow 2 h.1) (Nat.dvd_trans (Nat.pow_dvd_pow 2 (Nat.le_trans h.1 (Nat.le_succ _))) (Up.dvd h.2))
theorem Up.lt:∀ {a k:Nat} {ps:List Nat},Up a ps→(∀ p∈ps,p<k)→a≤k→wd ps+2^a≤2^k
 | _,_,[],_,_,e=>by
   show 0+_≤_;rw [Nat.zero_add];exact Nat.pow_le_pow_right (by decide) e
 | a,k,p::r,h,hk,_=>by
   have h1:p<k:=hk p List.mem_cons_self;have ih:=Up.lt (a:=p+1) (k:=k) h.2 (fun q hq=>hk q (List.mem_cons_of_mem _ hq)) h1;have h2:2^a≤2^p:=Nat.pow_le_pow_right (by decide) h.1;rw [Nat.pow_succ] at ih;show 2^p+wd r+2^a≤2^k;omega
theorem Up.lt' {k:Nat}{ps:List Nat}(h:Up 0 ps)(hk:∀ p∈ps,p<k):wd ps<2^k:=by have:=Up.lt h hk (Nat.zero_le _);omega
theorem and_pred (x p:Nat):(2^(p+1)*x+2^p) &&& (2^(p+1)*x+2^p-1)=2^(p+1)*x:=by
 have hp:0<2^p:=Nat.pow_pos (by decide);have e1:2^(p+1)*x+2^p-1=2^(p+1)*x+(2^p-1):=by omega
 have l1:2^p<2^(p+1):=Nat.pow_lt_pow_right (by decide) (Nat.lt_succ_self _);rw [e1];apply Nat.eq_of_testBit_eq
 intro i;have q:=Nat.testBit_two_pow_mul_add x (b:=0) (i:=p+1) (Nat.pow_pos (by decide)) i;rw [Nat.add_zero] at q;rw [Nat.testBit_and,Nat.testBit_two_pow_mul_add x l1 i,Nat.testBit_two_pow_mul_add x (b:=2^p-1) (i:=p+1) (by omega) i,q];split
 · rw [Nat.testBit_two_pow,Nat.testBit_two_pow_sub_one,Nat.zero_testBit]
   by_cases e:p=i
   · subst e;simp
   · simp [e]
 · simp
theorem Zgt {p:Nat}{r:List Nat}(h:Up (p+1) r):wd (p::r) &&& (wd (p::r)-1)=wd r:=by obtain ⟨x,hx⟩:=h.dvd;show (2^p+wd r) &&& (2^p+wd r-1)=wd r;rw [hx,Nat.add_comm (2^p)];exact and_pred x p
theorem Zf8 {p:Nat}{r:List Nat}:0<wd (p::r):=by have:0<2^p:=Nat.pow_pos (by decide);show 0<2^p+wd r;omega
theorem Zbo:∀ (xs ys:List Nat),wd (xs++ys)=wd xs+wd ys
 | [],ys=>(Nat.zero_add _).symm
 | x::xs,ys=>by
   show 2^x+wd (xs++ys)=2^x+wd xs+wd ys;rw [Zbo xs ys,Nat.add_assoc]
theorem Up.left:∀ {a:Nat} {xs ys:List Nat},Up a (xs++ys)→Up a xs
 | _,[],_,_=>trivial
 | _,_::_,_,h=>⟨h.1,Up.left h.2⟩
theorem Up.last:∀ {a p:Nat} {xs ys:List Nat},Up a (xs++p::ys)→∀ q∈xs,q<p
 | _,_,[],_,_,_,hq=>by simp at hq
 | a,p,x::xs,ys,h,q,hq=>by
   have h2:Up (x+1) (xs++p::ys):=h.2;rcases List.mem_cons.mp hq with e | e
   · subst e
     have:∀ {b:Nat} {zs:List Nat},Up b (zs++p::ys)→b≤p:=by
       intro b zs;induction zs generalizing b with
       | nil=>exact fun z=>z.1
       | cons z zs ih=>exact fun w=>Nat.le_trans w.1 (Nat.le_of_succ_le (ih w.2))
     exact this h2
   · exact Up.last h2 q e
theorem Zc8 {x y:Int}(hx:0≤x)(hy:0≤y):Builtin.bitOr x y=((x.toNat ||| y.toNat:Nat):Int):=by
 have nn:∀ z:Int,Builtin.bitNot (Builtin.bitNot z)=z:=fun z=>by unfold Builtin.bitNot;omega
 have e:Builtin.bitOr x y=Builtin.bitNot (Builtin.bitAnd (Builtin.bitNot x) (Builtin.bitNot y)):=rfl;rw [e,bitAnd_nn (by unfold Builtin.bitNot;omega) (by unfold Builtin.bitNot;omega),nn,nn,nn]
def pint (ps:List Nat):List V:=ps.map fun (p:Nat)=>V.int (p:Int)
theorem ZbD {ps:List Nat}{i:Nat}{x:V}(hi:(pint ps)[i]?=some x):∃ p:Nat,ps[i]?=some p∧x=.int p:=by
 unfold pint at hi;rw [List.getElem?_map] at hi;cases e:ps[i]? with
 | none=>rw [e] at hi;cases hi
 | some p=>rw [e] at hi;exact ⟨p,rfl,(Option.some.inj hi).symm⟩
theorem Zcl {ps:List Nat}{x:V}(hx:x∈pint ps):∃ p:Nat,p∈ps∧x=.int p:=by obtain ⟨p,h,e⟩:=List.mem_map.mp hx;exact ⟨p,h,e.symm⟩
theorem Zal (ps:List Nat):(pint ps).length=ps.length:=List.length_map _
theorem ZaX:∀ {a:Nat} {ps:List Nat},Up a ps→∀ i,(wd ps).testBit i=decide (i∈ps)
 | _,[],_,i=>by simp [wd]
 | a,p :: r,h,i=>by
   obtain ⟨x,hx⟩:=Up.dvd h.2;have ih:=ZaX h.2 i;have l1:2^p<2^(p+1):=Nat.pow_lt_pow_right (by decide) (Nat.lt_succ_self _);have e:wd (p::r)=2^(p+1)*x+2^p:=by show 2^p+wd r=_;rw [hx];omega
   have q:=Nat.testBit_two_pow_mul_add x (b:=0) (i:=p+1) (Nat.pow_pos (by decide)) i;rw [Nat.add_zero,← hx,ih] at q;rw [e,Nat.testBit_two_pow_mul_add x l1 i];split
   · rename_i hlt
     rw [if_pos hlt] at q;have nm:i∉r:=by simpa using q
     rw [Nat.testBit_two_pow];by_cases hp:p=i
     · subst hp;simp
     · have:¬ i=p:=fun z=>hp z.symm
       simp [hp,nm,this]
   · rename_i hge
     rw [if_neg hge] at q;rw [← q];have:¬ i=p:=by omega
     simp [this]
theorem Up.of_lt:∀ {a:Nat} {ps:List Nat},Up a ps→∀ p∈ps,a≤p
 | _,[],_,_,h=>by simp at h
 | a,q::r,h,p,hp=>by
   rcases List.mem_cons.mp hp with e | e
   · subst e;exact h.1
   · have:=Up.of_lt h.2 p e
     have:=h.1;omega
theorem Up.ext:∀ {a:Nat} {ps qs:List Nat},Up a ps→Up a qs→(∀ i,i∈ps↔i∈qs)→ps=qs
 | _,[],[],_,_,_=>rfl
 | _,[],q::_,_,_,h=>by have:=(h q).mpr List.mem_cons_self;simp at this
 | _,p::_,[],_,_,h=>by have:=(h p).mp List.mem_cons_self;simp at this
 | a,p :: r,q::s,hp,hq,h=>by
   have e:p=q:=by
     have h1:=(h p).mp List.mem_cons_self;have h2:=(h q).mpr List.mem_cons_self;rcases List.mem_cons.mp h1 with z | z
     · exact z
     · rcases List.mem_cons.mp h2 with y | y
       · exact y.symm
       · have:=Up.of_lt hq.2 p z
         have:=Up.of_lt hp.2 q y;omega
   subst e;have:r=s:=Up.ext hp.2 hq.2 fun i=>by
     have:=h i;constructor
     · intro m
       have l:=Up.of_lt hp.2 i m;rcases List.mem_cons.mp (this.mp (List.mem_cons_of_mem _ m)) with z | z
       · omega
       · exact z
     · intro m
       have l:=Up.of_lt hq.2 i m;rcases List.mem_cons.mp (this.mpr (List.mem_cons_of_mem _ m)) with z | z
       · omega
       · exact z
   rw [this]
theorem Zgb {ps:List Nat}{w:Nat}(h:Up 0 ps)(hw:∀ i,w.testBit i=decide (i∈ps)):w=wd ps :=
 Nat.eq_of_testBit_eq fun i=>by rw [hw,ZaX h]
theorem Zb1 (p:Nat→Bool)(n:Nat):Up 0 ((List.range n).filter p):=by
 have:∀ a,Up a ((List.range' a n).filter p):=by
   induction n with
   | zero=>exact fun a=>trivial
   | succ n ih =>
     intro a;rw [List.range'_succ,List.filter_cons];split
     · exact ⟨Nat.le_refl _,ih (a+1)⟩
     · exact (ih (a+1)).mono (Nat.le_succ _)
 rw [List.range_eq_range'];exact this 0
theorem ZfJ:∀ (n a:Nat),Up a (List.range' a n)
 | 0,_=>trivial
 | n+1,a=>by rw [List.range'_succ];exact ⟨Nat.le_refl _,ZfJ n (a+1)⟩
def pl (n w:Nat):List Nat:=(List.range n).filter w.testBit
theorem up_pl (n w:Nat):Up 0 (pl n w):=Zb1 _ _
theorem mem_pl {n w i:Nat}:i∈pl n w↔i<n∧w.testBit i=true:=by unfold pl;simp
theorem pl_wd {n:Nat}{ps:List Nat}(h:Up 0 ps)(hn:∀ p∈ps,p<n):pl n (wd ps)=ps :=
 Up.ext (up_pl _ _) h fun i=>by
   rw [mem_pl,ZaX h];simp;exact hn i
theorem Up.shift (k:Nat):∀ {a:Nat} {ps:List Nat},Up a ps→Up (a+k) (ps.map (·+k))
 | _,[],_=>trivial
 | a,p::r,h=>by
   have:=Up.shift k h.2;rw [List.map_cons];refine ⟨Nat.add_le_add_right h.1 k,?_⟩;have e:p+1+k=p+k+1:=by omega
   rw [e] at this;exact this
theorem ZgY (k:Nat):∀ (ps:List Nat),wd (ps.map (·+k))=wd ps*2^k
 | []=>by simp [wd]
 | p::r=>by
   rw [List.map_cons];show 2^(p+k)+wd _=(2^p+wd r)*2^k;rw [ZgY k r,Nat.pow_add,Nat.add_mul]
theorem up_from {k:Nat}:∀ {a:Nat} {ps:List Nat},Up a ps→(∀ p∈ps,k≤p)→Up k ps
 | _,[],_,_=>trivial
 | a,p::r,h,hk=>⟨hk p List.mem_cons_self,h.2⟩
theorem log2_wd {ps:List Nat}{p:Nat}(h:Up 0 (ps++[p])):(wd (ps++[p])).log2=p:=by
 have hl:wd ps<2^p:=Up.lt' (h.left) h.last;rw [Zbo];have e:wd [p]=2^p:=by show 2^p+0=2^p;omega
 rw [e];have h0:wd ps+2^p≠0:=by have:0<2^p:=Nat.pow_pos (by decide);omega
 have a1:=(Nat.le_log2 h0 (k:=p)).mpr (by omega);have a2:=(Nat.log2_lt h0 (k:=p+1)).mpr (by rw [Nat.pow_succ];omega);omega
theorem Zeg:∀ (n a:Nat),wd (List.range' a n)+2^a=2^(a+n)
 | 0,a=>by simp [wd]
 | n+1,a=>by
   rw [List.range'_succ];have:=Zeg n (a+1);show 2^a+wd _+2^a=_;have e:a+(n+1)=a+1+n:=by omega
   rw [e,← this,Nat.pow_succ];omega
def orW (ps:List Nat):Nat:=ps.foldl (fun w p=>w ||| 2^p) 0
theorem orW_snoc (ps:List Nat)(p:Nat):orW (ps++[p])=orW ps ||| 2^p:=by unfold orW;rw [List.foldl_append];rfl
theorem ZhJ (ps:List Nat) (i:Nat):(orW ps).testBit i=decide (i∈ps):=by
 have:∀ (qs:List Nat) (w:Nat),(qs.foldl (fun w p=>w ||| 2^p) w).testBit i=(w.testBit i||decide (i∈qs)):=by
   intro qs;induction qs with
   | nil=>intro w;simp
   | cons p r ih =>
     intro w;rw [List.foldl_cons,ih,Nat.testBit_or,Nat.testBit_two_pow];by_cases h:p=i
     · subst h;simp
     · have:¬ i=p:=fun z=>h z.symm
       simp [h,this]
 unfold orW;rw [this];simp
theorem orW_up {ps:List Nat}(h:Up 0 ps):orW ps=wd ps:=Zgb h (ZhJ ps)
def orR (rs:List (Nat × Nat)):Nat:=rs.foldl (fun w r=>w ||| wd (List.range' r.1 (r.2+1-r.1))) 0
theorem orR_snoc (rs:List (Nat × Nat))(r:Nat × Nat):orR (rs++[r])=orR rs ||| wd (List.range' r.1 (r.2+1-r.1)):=by unfold orR;rw [List.foldl_append];rfl
def cov (rs:List (Nat × Nat))(i:Nat):Prop:=∃ r∈rs,r.1≤i∧i≤r.2
theorem ZgV (rs:List (Nat × Nat)) (i:Nat):(orR rs).testBit i=true↔cov rs i:=by
 have:∀ (qs:List (Nat × Nat)) (w:Nat),(qs.foldl (fun w r=>w ||| wd (List.range' r.1 (r.2+1-r.1))) w).testBit i=true↔(w.testBit i=true∨cov qs i):=by
   intro qs;induction qs with
   | nil=>intro w;simp [cov]
   | cons r q ih =>
     intro w;rw [List.foldl_cons,ih,Nat.testBit_or,Bool.or_eq_true,ZaX (ZfJ _ _)];have e:(decide (i∈List.range' r.1 (r.2+1-r.1))=true)↔(r.1≤i∧i≤r.2):=by rw [decide_eq_true_eq,List.mem_range'_1];omega
     rw [e];unfold cov;constructor
     · rintro ((h | h) | ⟨z,hz,h⟩)
       · exact .inl h
       · exact .inr ⟨r,List.mem_cons_self,h⟩
       · exact .inr ⟨z,List.mem_cons_of_mem _ hz,h⟩
     · rintro (h | ⟨z,hz,h⟩)
       · exact .inl (.inl h)
       · rcases List.mem_cons.mp hz with e2 | e2
         · subst e2;exact .inl (.inr h)
         · exact .inr ⟨z,e2,h⟩
 unfold orR;rw [this];simp
def addP (rs:List (Nat × Nat))(p:Nat):List (Nat × Nat):=match rs.getLast? with
 | some (a,b)=>if b+1=p then rs.dropLast++[(a,p)] else rs++[(p,p)]
 | none=>[(p,p)]
def runsOf (ps:List Nat):List (Nat × Nat):=ps.foldl addP []
theorem Zcn (p:Nat):addP [] p=[(p,p)]:=rfl
theorem ZbL {rs:List (Nat × Nat)}{a b p:Nat}(h:b+1=p):addP (rs++[(a,b)]) p=rs++[(a,p)]:=by unfold addP;rw [List.getLast?_concat];show (if b+1=p then _ else _)=_;rw [if_pos h,List.dropLast_concat]
theorem Zbv {rs:List (Nat × Nat)}{a b p:Nat}(h:b+1≠p):addP (rs++[(a,b)]) p=rs++[(a,b)]++[(p,p)]:=by unfold addP;rw [List.getLast?_concat];show (if b+1=p then _ else _)=_;rw [if_neg h]
theorem ZbN (ps:List Nat)(p:Nat):runsOf (ps++[p])=addP (runsOf ps) p:=by unfold runsOf;rw [List.foldl_append];rfl
theorem runs_le:∀ {rs:List (Nat × Nat)} {p:Nat},(∀ r∈rs,r.1≤r.2)→∀ r∈addP rs p,r.1≤r.2:=by
 intro rs p h r hr;rcases List.eq_nil_or_concat rs with e | ⟨q,⟨a,b⟩,e⟩
 · subst e
   rw [Zcn] at hr;have:r=(p,p):=by simpa using hr
   subst this;exact Nat.le_refl _
 · rw [List.concat_eq_append] at e
   subst e;have hab:=h (a,b) (by simp);by_cases e:b+1=p
   · rw [ZbL e] at hr
     rcases List.mem_append.mp hr with z | z
     · exact h r (List.mem_append.mpr (.inl z))
     · have:r=(a,p):=by simpa using z
       subst this;show a≤p;have hab:a≤b:=hab;omega
   · rw [Zbv e] at hr
     rcases List.mem_append.mp hr with z | z
     · exact h r z
     · have:r=(p,p):=by simpa using z
       subst this;exact Nat.le_refl _
theorem ZcT (rs qs:List (Nat × Nat))(i:Nat):cov (rs++qs) i↔cov rs i∨cov qs i:=by
 unfold cov;simp only [List.mem_append];constructor
 · rintro ⟨r,h | h,z⟩
   · exact .inl ⟨r,h,z⟩
   · exact .inr ⟨r,h,z⟩
 · rintro (⟨r,h,z⟩ | ⟨r,h,z⟩)
   · exact ⟨r,.inl h,z⟩
   · exact ⟨r,.inr h,z⟩
theorem Zeb (a b i:Nat):cov [(a,b)] i↔a≤i∧i≤b:=by unfold cov;simp
theorem cov_addP {rs:List (Nat × Nat)} (p i:Nat) (h:∀ r∈rs,r.1≤r.2):cov (addP rs p) i↔cov rs i∨i=p:=by
 rcases List.eq_nil_or_concat rs with e | ⟨q,⟨a,b⟩,e⟩
 · subst e
   rw [Zcn,Zeb];unfold cov;simp;omega
 · rw [List.concat_eq_append] at e
   subst e;have hab:a≤b:=h (a,b) (by simp);by_cases e:b+1=p
   · rw [ZbL e,ZcT,ZcT,Zeb,Zeb]
     constructor
     · rintro (z | z)
       · exact .inl (.inl z)
       · by_cases hp:i=p
         · exact .inr hp
         · exact .inl (.inr (by omega))
     · rintro ((z | z) | z)
       · exact .inl z
       · exact .inr (by omega)
       · exact .inr (by omega)
   · rw [Zbv e,ZcT,Zeb]
     constructor
     · rintro (z | z)
       · exact .inl z
       · exact .inr (by omega)
     · rintro (z | z)
       · exact .inl z
       · exact .inr (by omega)
theorem snocInd {α:Type} {motive:List α→Prop} (nil:motive []) (snoc:∀ xs x,motive xs→motive (xs++[x])):∀ xs,motive xs:=by
 have:∀ n xs,xs.length=n→motive xs:=by
   intro n;induction n with
   | zero=>intro xs h;cases xs with
     | nil=>exact nil
     | cons _ _=>cases h
   | succ n ih =>
     intro xs h;rcases List.eq_nil_or_concat xs with e | ⟨ys,y,e⟩
     · subst e;exact nil
     · rw [List.concat_eq_append] at e
       subst e;rw [List.length_append] at h;exact snoc ys y (ih ys (by simpa using h))
 exact fun xs=>this _ xs rfl
theorem ZdQ (ps:List Nat):∀ r∈runsOf ps,r.1≤r.2:=by
 induction ps using snocInd with
 | nil=>intro r h;simp [runsOf] at h
 | snoc ps p ih=>rw [ZbN];exact runs_le ih
theorem Ze4 (ps:List Nat)(i:Nat):cov (runsOf ps) i↔i∈ps:=by
 induction ps using snocInd with
 | nil=>unfold cov runsOf;simp
 | snoc ps p ih=>rw [ZbN,cov_addP p i (ZdQ ps),ih];simp
theorem ZhU {ps:List Nat}(h:Up 0 ps):orR (runsOf ps)=wd ps:=Zgb h fun i=>by
 rw [Bool.eq_iff_iff,ZgV,Ze4];simp
theorem Zky {ps:List Nat}{n:Nat}(h:∀ p∈ps,p<n):∀ r∈runsOf ps,r.2<n:=fun r hr=>by
 have h1:=ZdQ ps r hr;exact h _ ((Ze4 ps r.2).mp ⟨r,hr,h1,Nat.le_refl _⟩)
inductive Dec:List Nat→List (Nat × Nat)→Prop
 | nil:Dec [] []
 | cons {p n:Nat} {rest:List Nat} {rs:List (Nat × Nat)} (u:Up (p+n+2) rest) (h:Dec rest rs):Dec (List.range' p (n+1)++rest) ((p,p+n)::rs)
theorem ZdG:∀ (r:List Nat) (p:Nat),Up (p+1) r→∃ n rest,p::r=List.range' p (n+1)++rest∧Up (p+n+2) rest∧rest.length≤r.length
 | [],p,_=>⟨0,[],rfl,trivial,Nat.le_refl _⟩
 | q :: r,p,u=>by
   by_cases e:q=p+1
   · subst e
     obtain ⟨n,rest,h1,h2,h3⟩:=ZdG r (p+1) u.2;refine ⟨n+1,rest,?_,?_,?_⟩
     · rw [List.range'_succ,List.cons_append,← h1]
     · have e:p+(n+1)+2=p+1+n+2:=by omega
       rw [e];exact h2
     · rw [List.length_cons];omega
   · exact ⟨0,q::r,rfl,⟨by have:=u.1;omega,u.2⟩,Nat.le_refl _⟩
theorem Zit:∀ (m:Nat) (ps:List Nat) {a:Nat},ps.length≤m→Up a ps→∃ rs,Dec ps rs
 | _,[],_,_,_=>⟨[],.nil⟩
 | 0,_::_,_,h,_=>by simp at h
 | m+1,p::r,_,h,u=>by
   obtain ⟨n,rest,h1,h2,h3⟩:=ZdG r p u.2;obtain ⟨rs,hd⟩:=Zit m rest (by rw [List.length_cons] at h;omega) h2;exact ⟨_,by rw [h1];exact .cons h2 hd⟩
theorem Zhg {rs0 q:List (Nat × Nat)}(p:Nat)(h:q≠[]):addP (rs0++q) p=rs0++addP q p:=by
 rcases List.eq_nil_or_concat q with e | ⟨q0,⟨a,b⟩,e⟩
 · exact absurd e h
 · rw [List.concat_eq_append] at e
   subst e;by_cases e:b+1=p
   · rw [ZbL e,← List.append_assoc,ZbL e,List.append_assoc]
   · rw [Zbv e,← List.append_assoc,Zbv e,List.append_assoc,List.append_assoc,List.append_assoc]
theorem addP_ne (q:List (Nat × Nat))(p:Nat):addP q p≠[]:=by
 rcases List.eq_nil_or_concat q with e | ⟨q0,⟨a,b⟩,e⟩
 · subst e;rw [Zcn];simp
 · rw [List.concat_eq_append] at e
   subst e;by_cases e:b+1=p
   · rw [ZbL e];simp
   · rw [Zbv e];simp
theorem Zd1:∀ (ys:List Nat) {rs0 q:List (Nat × Nat)},q≠[]→ys.foldl addP (rs0++q)=rs0++ys.foldl addP q
 | [],_,_,_=>rfl
 | y::ys,rs0,q,h=>by rw [List.foldl_cons,Zhg y h,List.foldl_cons,Zd1 ys (addP_ne q y)]
theorem fold_gap {b:Nat}{a:Nat}:∀ {ys:List Nat},Up (b+2) ys→ys.foldl addP [(a,b)]=(a,b)::ys.foldl addP []
 | [],_=>rfl
 | y :: ys,u=>by
   have e:addP [(a,b)] y=[(a,b)]++[(y,y)]:=by have:=Zbv (rs:=[]) (a:=a) (b:=b) (p:=y) (by have:=u.1;omega);simpa using this
   rw [List.foldl_cons,e,Zd1 ys (by simp),List.foldl_cons,Zcn];rfl
theorem Zhb:∀ (n p a b:Nat),b+1=p→(List.range' p n).foldl addP [(a,b)]=[(a,b+n)]
 | 0,_,_,_,_=>rfl
 | n+1,p,a,b,e=>by
   rw [List.range'_succ,List.foldl_cons];have:=ZbL (rs:=[]) (a:=a) (b:=b) e;rw [show addP [(a,b)] p=[(a,p)] by simpa using this,Zhb n (p+1) a p rfl];congr 2
   omega
theorem ZhV (p n:Nat):runsOf (List.range' p (n+1))=[(p,p+n)]:=by unfold runsOf;rw [List.range'_succ,List.foldl_cons,Zcn,Zhb n (p+1) p p rfl]
theorem Dec.runs:∀ {ps:List Nat} {rs:List (Nat × Nat)},Dec ps rs→runsOf ps=rs
 | _,_,.nil=>rfl
 | _,_,.cons (p:=p) (n:=n) (rest:=rest) u h=>by
   have ih:=Dec.runs h;unfold runsOf;rw [List.foldl_append];show rest.foldl addP (runsOf (List.range' p (n+1)))=_;rw [ZhV,fold_gap u];show _::runsOf rest=_;rw [ih]
def expand (rs:List (Nat × Nat)):List Nat:=rs.flatMap fun r=>List.range' r.1 (r.2+1-r.1)
theorem Dec.expand:∀ {ps:List Nat} {rs:List (Nat × Nat)},Dec ps rs→expand rs=ps
 | _,_,.nil=>rfl
 | _,_,.cons (p:=p) (n:=n) u h=>by
   have ih:=Dec.expand h;unfold BM.expand at ih ⊢;rw [List.flatMap_cons,ih];congr 2
   show p+n+1-p=n+1;omega
def Apart:Nat→List (Nat × Nat)→Prop
 | _,[]=>True
 | a,r::rs=>a≤r.1∧r.1≤r.2∧Apart (r.2+2) rs
theorem Dec.apart:∀ {ps:List Nat} {rs:List (Nat × Nat)} {a:Nat},Dec ps rs→Up a ps→Apart a rs
 | _,_,_,.nil,_=>trivial
 | _,_,_,.cons (p:=p) (n:=n) u h,w=>by
   refine ⟨?_,Nat.le_add_right _ _,Dec.apart h u⟩;rw [List.range'_succ] at w;exact w.1
theorem runs_ok {ps:List Nat}(u:Up 0 ps):expand (runsOf ps)=ps∧Apart 0 (runsOf ps):=by obtain ⟨rs,h⟩:=Zit _ ps (Nat.le_refl _) u;rw [h.runs];exact ⟨h.expand,h.apart u⟩
theorem ZjV {p n:Nat}{rest:List Nat}(u:Up (p+n+2) rest):wd (List.range' p (n+1)++rest)+2^p=wd ((p+n+1)::rest)∧wd (List.range' p (n+1)++rest)-wd (List.range' p (n+1))=wd rest:=by
 have h:=Zeg (n+1) p;rw [Zbo];refine ⟨?_,by omega⟩;show _=2^(p+n+1)+wd rest;have e:p+(n+1)=p+n+1:=by omega
 rw [e] at h;omega
theorem Ziu {p n:Nat}{rest:List Nat}(u:Up (p+n+2) rest):runsOf (List.range' p (n+1)++rest)=(p,p+n)::runsOf rest:=by obtain ⟨rs,h⟩:=Zit _ rest (Nat.le_refl _) u;rw [(Dec.cons u h).runs,h.runs]
end BM
namespace L2
open PySem PySem.Spec PyProof.Rows
section
variable {prog:Program}{w:World}{A:Around}{R:Result→Shared→Prop}{s:Shared}
theorem Zgd {elt target iter:Expr}{ifs:List Expr}{scope:Scope}{pos:Pos}{it acc:Value}{env:Env}(I:Nat→Shared→Prop)
   (turn : ∀ n s,I n s→wpAny (model prog w) A (pyNext it) (fun r s₁=>match r with
     | none=>R (.ok .next) s₁
     | some v=>wpAny (model prog w) A (letOwnedTupleGo target it v) (fun _ s₀=>wpAny (model prog w) A (assign target env v) (fun _ s₂ =>
         wpAny (model prog w) A (forIn ifs true fun c r=>if r=true then do let ok ← isTrue c env (eval c env);pure (ForInStep.yield ok) else pure (ForInStep.yield r)) (fun ok s₃ =>
           if ok=true then wpAny (model prog w) A (eval elt env) (fun x s₄ =>
             wpAny (model prog w) A (call (.builtin "list.append") [acc,x]) (fun _ s₅=>∃ m,m<n∧I m s₅) (fun _ _=>False) s₄) (fun _ _=>False) s₃
           else ∃ m,m<n∧I m s₃) (fun _ _=>False) s₂) (fun _ _=>False) s₀) (fun _ _=>False) s₁) (fun _ _=>False) s)
   (n:Nat) (h:I n s) :
   codeAny (model prog w) A (.compLoop (.ListComp elt [⟨target,iter,ifs,0⟩] scope pos) 0 it acc env) R s:=by
 refine codeAny_loop rfl I (fun n s hI=>?_) n h;show wpAny _ A ((compTurn (.ListComp elt [⟨target,iter,ifs,0⟩] scope pos) 0 it acc env).onRaise (fun x=>do noteFrame x env;theTreesLotGoes x)) _ _ s;refine wpAny_noted ?_;rw [compTurn_list];refine wpAny_bind (wpAny_standAt (wpAny_bind (wpAny_mono (turn n s hI) (fun r s₁ h₁=>?_) fun _ _ h'=>h'.elim)));cases r with
 | none=>exact wpAny_pure h₁
 | some v =>
   refine wpAny_bind (wpAny_mono h₁ (fun _ s₀ h₀=>?_) fun _ _ h'=>h'.elim);refine wpAny_bind (wpAny_mono h₀ (fun _ s₂ h₂=>wpAny_bind (wpAny_mono h₂ (fun ok s₃ h₃=>?_) fun _ _ h'=>h'.elim)) fun _ _ h'=>h'.elim);cases ok with
   | false=>exact wpAny_pure ⟨rfl,h₃⟩
   | true =>
     exact wpAny_bind (wpAny_bind (wpAny_mono h₃ (fun x s₄ h₄=>wpAny_bind (wpAny_mono h₄ (fun _ s₅ h₅=>wpAny_pure (wpAny_pure ⟨rfl,h₅⟩)) fun _ _ h'=>h'.elim)) fun _ _ h'=>h'.elim))
end
theorem Zcq {env:Env}:∀ (names:List (Str × NameKind)) (acc:List (Str × Addr)),(∀ z∈names,z.2=.free→∃ c,env.cells.lookup z.1=some c) →
   ∃ cl,(forIn names acc fun x r=>if (x.2==NameKind.free)=true then do let a ← cellOf env x.1;pure (ForInStep.yield ((x.1,a)::r)) else pure (ForInStep.yield r):Sem (List (Str × Addr)))=pure cl ∧
     (∀ y c,cl.lookup y=some c→acc.lookup y=some c∨env.cells.lookup y=some c)∧(∀ y,((∃ c,acc.lookup y=some c)∨(y,NameKind.free)∈names)→∃ c,cl.lookup y=some c)
 | [],acc,_=>⟨acc,by rw [List.forIn_nil],fun _ _ h=>.inl h,fun y h=>by
     rcases h with h | h
     · exact h
     · simp at h⟩
 | (n, k)::r,acc,h=>by
   have hr:∀ z∈r,z.2=.free→∃ c,env.cells.lookup z.1=some c:=fun z hz=>h z (List.mem_cons_of_mem _ hz)
   by_cases hk:k=.free
   · subst hk
     obtain ⟨c,hc⟩:=h (n,.free) List.mem_cons_self rfl;obtain ⟨cl,e,h1,h2⟩:=Zcq r ((n,c)::acc) hr;refine ⟨cl,?_,fun y d hd=>?_,fun y hy=>?_⟩
     · rw [List.forIn_cons]
       have e1:cellOf env n=pure c:=by unfold cellOf;rw [hc]
       simp only [beq_self_eq_true,if_true,e1,pure_bind];exact e
     · rcases h1 y d hd with z | z
       · rw [List.lookup_cons] at z
         cases hy:y==n with
         | true =>
           rw [hy] at z;have:y=n:=by simpa using hy
           subst this;cases z;exact .inr hc
         | false=>rw [hy] at z;exact .inl z
       · exact .inr z
     · refine h2 y ?_
       rcases hy with ⟨d,hd⟩ | hy
       · cases q:y==n with
         | true=>exact .inl ⟨c,by rw [List.lookup_cons,q]⟩
         | false=>exact .inl ⟨d,by rw [List.lookup_cons,q];exact hd⟩
       · rcases List.mem_cons.mp hy with z | z
         · cases z
           exact .inl ⟨c,by rw [List.lookup_cons,beq_self_eq_true]⟩
         · exact .inr z
   · obtain ⟨cl,e,h1,h2⟩:=Zcq r acc hr
     refine ⟨cl,?_,h1,fun y hy=>h2 y ?_⟩
     · rw [List.forIn_cons]
       have:(k==NameKind.free)=false:=by simpa using hk
       simp only [this,Bool.false_eq_true,if_false,pure_bind];exact e
     · rcases hy with z | z
       · exact .inl z
       · rcases List.mem_cons.mp z with q | q
         · cases q
           exact absurd rfl hk
         · exact .inr q
theorem Zh2 {scope:Scope}{env:Env}(h:∀ z∈scope.names,z.2=.free→∃ c,env.cells.lookup z.1=some c) :
   ∃ cl,closureFor scope env=pure cl∧(∀ y c,cl.lookup y=some c→env.cells.lookup y=some c)∧∀ y,(y,NameKind.free)∈scope.names→∃ c,cl.lookup y=some c:=by
 obtain ⟨cl,e,h1,h2⟩:=Zcq (env:=env) scope.names [] h;refine ⟨cl,?_,fun y c hc=>?_,fun y hy=>h2 y (.inr hy)⟩
 · unfold closureFor
   exact (congrArg (fun m:Sem (List (Str × Addr))=>m >>= fun cs=>pure cs) e).trans (pure_bind _ _)
 · rcases h1 y c hc with z | z
   · cases z
   · exact z
def compX (X:Cx)(scope:Scope)(own:List Str)(caps:List Nat)(cl:List (Str × Addr))(C:Addr)(s₃:Shared)(H₃:Hp)(fp:List Addr):Cx :=
 { X with env:=compEnvC scope cl C X.env,N:=own++caps.map fun j=>X.N.getD j Str.empty,s₀:=s₃,H₀:=H₃,outer:=X.stack,stack:=X.stack,ex:=fp,fn:=fun _=>false,pn:=[],xe:=fun _ _=>False }
def capSt (n:Nat)(caps:List Nat)(σ:St):St:=List.replicate n none++caps.map fun j=>σ.getD j none
def compOk (sc osc:Scope):Bool :=
 (sc.kind==.function)&&sc.names.all fun z=>match z.2 with
   | .cell=>false
   | .local=>sc.names.lookup z.1==some .local
   | .free=>osc.names.lookup z.1==some .cell||osc.names.lookup z.1==some .free
   | _=>true
def capOk (X:Cx)(sc:Scope):List Nat→Prop
 | []=>True
 | j::r=>(∃ y,X.N[j]?=some y∧sc.names.lookup y=some .free∧(X.env.scope.names.lookup y=some .cell∨X.env.scope.names.lookup y=some .free))∧capOk X sc r
def gOwn (n:Nat)(g:TG):Prop:=∀ v σ H Q,g v σ H Q→g v σ H fun σ' H'=>(σ'.length=σ.length∧σ'.drop n=σ.drop n)∧Q σ' H'
theorem ZaH:gOwn 1 (gName 0):=fun v σ H Q h=>⟨⟨by simp,by cases σ<;>simp⟩,h⟩
def tNoTest:TT:=fun _ H Q=>Q true H
def tComp (n:Nat) (caps:List Nat) (wi:TI) (g:TG) (tt:TT) (te:TE):TE:=fun σ H Q=>wi σ H fun J H1=>∀ D,H1 D=none→∃ W:Nat→Nat→Hp→Prop,(∃ m,W 0 m (upd H1 D (.lst [])))∧∀ i m H2,W i m H2 →
 (J.stop i H2∧Q (.ref D) H2)∨(J.go i H2∧∀ x H3,J.yld i H2 x H3→g x (capSt n caps σ) H3 fun σ4 H4=>tt σ4 H4 fun b H5 =>
   if b=true then te σ4 H5 fun y H6=>∃ xs,H6 D=some (.lst xs)∧xs.length<sizeLine∧∃ m',m'<m∧W (i+1) m' (upd H6 D (.lst (xs++[y]))) else ∃ m',m'<m∧W (i+1) m' H5)
def PTs (X:Cx) (ifs:List Expr) (t:TT):Prop :=
 ∀ (pins:List (Addr × Obj)) (s:Shared) (σ:St) (H:Hp) (Q:Bool→Hp→Prop),Inv X pins σ H s→t σ H Q →
   wpAny (model X.prog X.w) X.A (forIn ifs true fun c r=>if r=true then do let ok ← isTrue c X.env (eval c X.env);pure (ForInStep.yield ok) else pure (ForInStep.yield r)) (TP X pins σ Q) X.xe s
theorem Zbi {X:Cx}:PTs X [] tNoTest:=fun _ _ _ H _ I h=>wpAny_tests_nil ⟨H,I,h⟩
theorem Zjl {X:Cx}{c:Expr}{t:TT}(h:PT X c t):PTs X [c] t:=fun pins s σ H Q I q=>wpAny_tests_one (h pins s σ H Q I q)
theorem Zbz {env:Env}:∀ {names:List (Str × NameKind)} {x:Str} {k:NameKind},names.lookup x=some k →
   (names.map fun (n,k)=>if (k==NameKind.free&&env.scope.kind==.function&&env.kindOf n==some .cell) then (n,NameKind.cell) else (n,k)).lookup x=some (if (k==NameKind.free&&env.scope.kind==.function&&env.kindOf x==some .cell) then NameKind.cell else k)
 | [],_,_,h=>by simp at h
 | (n,k')::r,x,k,h=>by
   have ih:=@Zbz env r x k;show List.lookup x ((if (k'==NameKind.free&&env.scope.kind==.function&&env.kindOf n==some .cell)=true then (n,NameKind.cell) else (n,k'))::_)=_;cases hx:x==n with
   | true =>
     simp only [List.lookup_cons,hx] at h;cases h;have:x=n:=by simpa using hx
     subst this;split<;>simp [List.lookup_cons]
   | false =>
     simp only [List.lookup_cons,hx] at h;split
     · simp only [List.lookup_cons,hx];exact ih h
     · simp only [List.lookup_cons,hx];exact ih h
theorem Za6 {env:Env}:∀ {names:List (Str × NameKind)} {x:Str} {k:NameKind},
   (names.map fun (n,k)=>if (k==NameKind.free&&env.scope.kind==.function&&env.kindOf n==some .cell) then (n,NameKind.cell) else (n,k)).lookup x=some k →
   ∃ k',(x,k')∈names∧(k=k'∨(k'=.free∧k=.cell))
 | [],_,_,h=>by simp at h
 | (n, k')::r,x,k,h=>by
   have ih:=@Za6 env r x k;rw [List.map_cons] at h;cases hc:(k'==NameKind.free&&env.scope.kind==.function&&env.kindOf n==some .cell) with
   | true =>
     simp only [hc,if_true,List.lookup_cons] at h;cases hx:x==n with
     | true =>
       simp only [hx,Option.some.injEq] at h;have e:x=n:=by simpa using hx
       have:k'=.free:=by simp only [Bool.and_eq_true,beq_iff_eq] at hc;exact hc.1.1
       exact ⟨.free,by rw [e,← this];exact List.mem_cons_self,.inr ⟨rfl,h.symm⟩⟩
     | false =>
       simp only [hx] at h;obtain ⟨q,m,z⟩:=ih h;exact ⟨q,List.mem_cons_of_mem _ m,z⟩
   | false =>
     simp only [hc,Bool.false_eq_true,if_false,List.lookup_cons] at h;cases hx:x==n with
     | true =>
       simp only [hx,Option.some.injEq] at h;have e:x=n:=by simpa using hx
       exact ⟨k',by rw [e];exact List.mem_cons_self,.inl h.symm⟩
     | false =>
       simp only [hx] at h;obtain ⟨q,m,z⟩:=ih h;exact ⟨q,List.mem_cons_of_mem _ m,z⟩
theorem Zdn {sc osc:Scope}(h:compOk sc osc=true):sc.kind=.function:=by unfold compOk at h;simp only [Bool.and_eq_true,beq_iff_eq] at h;exact h.1
theorem Zgw {sc osc:Scope}(h:compOk sc osc=true):∀ z∈sc.names,(match z.2 with
   | .cell=>false
   | .local=>sc.names.lookup z.1==some .local
   | .free=>osc.names.lookup z.1==some .cell||osc.names.lookup z.1==some .free
   | _=>true)=true:=by
 unfold compOk at h;simp only [Bool.and_eq_true] at h;exact List.all_eq_true.mp h.2
theorem ZgB {sc osc:Scope}(h:compOk sc osc=true):∀ z∈sc.names,z.2≠.cell:=fun z hz e=>by
 have:=Zgw h z hz;rw [e] at this;cases this
theorem ZiJ {sc osc:Scope}(h:compOk sc osc=true):∀ z∈sc.names,z.2=.local→sc.names.lookup z.1=some .local:=fun z hz e=>by
 have:=Zgw h z hz;rw [e] at this;simpa using this
theorem cok_free {sc osc:Scope}(h:compOk sc osc=true):∀ z∈sc.names,z.2=.free→osc.names.lookup z.1=some .cell∨osc.names.lookup z.1=some .free:=fun z hz e=>by
 have:=Zgw h z hz;rw [e] at this;simpa using this
theorem capOk.get {X:Cx}{sc:Scope}:∀ {caps:List Nat} {j:Nat},capOk X sc caps→j∈caps→∃ y,X.N[j]?=some y∧sc.names.lookup y=some .free∧(X.env.scope.names.lookup y=some .cell∨X.env.scope.names.lookup y=some .free)
 | [],_,_,h=>by simp at h
 | i::r,j,h,hj=>by
   rcases List.mem_cons.mp hj with e | e
   · subst e;exact h.1
   · exact h.2.get e
theorem Zcx {x:Str}{k:NameKind}:∀ {l:List (Str × NameKind)},l.lookup x=some k→(x,k)∈l
 | [],h=>by simp at h
 | (n,k')::r,h=>by
   rw [List.lookup_cons] at h;cases hx:x==n with
   | true =>
     simp only [hx,Option.some.injEq] at h;have e:x=n:=by simpa using hx
     rw [e,h];exact List.mem_cons_self
   | false =>
     simp only [hx] at h;exact List.mem_cons_of_mem _ (Zcx h)
section
variable {X:Cx}{pins:List (Addr × Obj)}{σ:St}{H2:Hp}{s2:Shared}{scope:Scope}{own:List Str}{caps:List Nat}
theorem ZfF {n:Nat}{caps:List Nat}{σ:St}{i:Nat}{v:V}(h:(capSt n caps σ)[i]?=some (some v)):n≤i∧∃ j,caps[i-n]?=some j∧σ[j]?=some (some v):=by
 unfold capSt at h;rw [List.getElem?_append] at h;split at h
 · rename_i hl
   rw [List.length_replicate] at hl;rw [List.getElem?_replicate,if_pos hl] at h;cases h
 · rename_i hl
   rw [List.length_replicate] at h hl;refine ⟨by omega,?_⟩;rw [List.getElem?_map] at h;cases q:caps[i-n]? with
   | none=>rw [q] at h;cases h
   | some j =>
     rw [q] at h;refine ⟨j,rfl,?_⟩;have h:σ.getD j none=some v:=Option.some.inj h;rw [List.getD_eq_getElem?_getD] at h;cases z:σ[j]? with
     | none=>rw [z] at h;cases h
     | some o=>rw [z] at h;exact congrArg some h
theorem Inv.comp {n:Nat} {fp:List Addr} {cl:List (Str × Addr)} {C:Addr} {h4:Heap} {tk:Nat}
   (I2:Inv X pins σ H2 s2) (hok:compOk scope X.env.scope=true) (hcap:capOk X scope caps) (hown:own.length=n)
   (cl1:∀ y c,cl.lookup y=some c→X.env.cells.lookup y=some c) (cl2:∀ y,(y,NameKind.free)∈scope.names→∃ c,cl.lookup y=some c)
   (hfp:∀ b∈fp,FpOk X pins H2 b) (hobj:∀ b∈fp,b<s2.heap.objs.size) (hC:C=s2.heap.objs.size) (hn:h4.Ns C fun _=>none)
   (hsb:∀ b o,s2.heap.get? b=some o→h4.get? b=some o) :
   Inv (compX X scope own caps cl C s2 H2 fp) [] (capSt n caps σ) H2 { s2 with heap:=h4,toks:=tk }:=by
 have hkind:=Zdn hok;have ok':(compX X scope own caps cl C s2 H2 fp).Ok:=by
   refine ⟨I2.ok.mod,hkind,I2.ok.glob,I2.ok.blt,by rw [hC];exact Nat.le_refl _,fun x y c h1 h2=>I2.ok.inj x y c (cl1 x c h1) (cl1 y c h2),fun x hx=>?_,fun x c h=>(by cases h),I2.ok.hd,I2.ok.frames,.inl rfl,fun b hb=>⟨?_,fun x c h=>(hfp b hb).2.2.2.2.1 x c (cl1 x c h)⟩,I2.bs,?_,fun b o e hb=>?_,fun b hb hf=>?_,I2.stack,I2.stkFree⟩
   · have:∃ k',(x,k')∈scope.names∧(k'=.cell∨k'=.free):=by
       rcases hx with hx | hx
       · obtain ⟨k',m,z⟩:=Za6 (env:=X.env) (names:=scope.names) (x:=x) (k:=.cell) hx
         rcases z with z | z
         · exact ⟨k',m,.inl z.symm⟩
         · exact ⟨k',m,.inr z.1⟩
       · obtain ⟨k',m,z⟩:=Za6 (env:=X.env) (names:=scope.names) (x:=x) (k:=.free) hx
         rcases z with z | z
         · exact ⟨k',m,.inr z.symm⟩
         · cases z.2
     obtain ⟨k',m,z | z⟩:=this
     · subst z;exact absurd rfl (ZgB hok _ m)
     · subst z;exact cl2 x m
   · show b≠C
     rw [hC];exact Nat.ne_of_lt (hobj b hb)
   · exact Nat.le_trans I2.ok.bsz (Nat.le_trans I2.ok.above (Nat.le_of_lt I2.lt))
   · rcases (hfp b hb).2.2.2.1 with z | z
     · exact I2.ok.noex b o e z
     · exact absurd (Nat.lt_of_lt_of_le (Heap.lt_size e) (Nat.le_trans I2.ok.bsz z)) (Nat.lt_irrefl _)
   · rcases List.mem_cons.mp (I2.stkSub b hf) with z | z
     · exact (hfp b hb).2.1 z
     · exact (hfp b hb).2.2.1 z
 have hCn:H2 C=none:=I2.hok.fresh (by rw [hC];exact Nat.le_refl _);refine ⟨ok',rfl,I2.bare,Un.kept hsb,⟨_,hn,fun i x v e1 e2 e3=>?_⟩,fun x c e=>?_,hCn,fun x c e=>I2.freeC x c (cl1 x c e),fun p hp=>(by cases hp),I2.hok.kept hsb,?_⟩
 · obtain ⟨hi,j,hj,hv⟩:=ZfF e2
   have e1:(own++caps.map fun j=>X.N.getD j Str.empty)[i]?=some x:=e1;rw [List.getElem?_append_right (by rw [hown];exact hi),List.getElem?_map,hown,hj] at e1;have e1:X.N.getD j Str.empty=x:=Option.some.inj e1;obtain ⟨y,hy,hfree,hout⟩:=hcap.get (List.mem_of_getElem? hj);rw [List.getD_eq_getElem?_getD,hy] at e1;have e1:y=x:=e1;subst e1;obtain ⟨m,hm,hl⟩:=I2.loc;obtain ⟨u,r,l⟩:=hl j y v hy hv (.inr hout);refine ⟨u,r,.inr ⟨?_,?_⟩⟩
   · have:=Zbz (env:=X.env) hfree
     show (relabel scope X.env).names.lookup y=some .cell∨(relabel scope X.env).names.lookup y=some .free;unfold relabel;rw [this];split
     · exact .inl rfl
     · exact .inr rfl
   · obtain ⟨c,hc⟩:=cl2 y (Zcx hfree)
     refine ⟨c,hc,?_⟩;rcases l with ⟨k,_⟩ | ⟨_,c',hc',hcell⟩
     · have k:X.env.scope.names.lookup y=some .local:=k
       rcases hout with z | z<;>(rw [k] at z;cases z)
     · rw [cl1 y c hc] at hc'
       cases hc';obtain ⟨o,ho,hd⟩:=hcell;exact ⟨o,hsb _ _ ho,hd⟩
 · obtain ⟨v,o,ho,hd⟩:=I2.cell x c (cl1 x c e)
   exact ⟨v,o,hsb _ _ ho,hd⟩
 · show (capSt n caps σ).length=(own++caps.map fun j=>X.N.getD j Str.empty).length
   unfold capSt;rw [List.length_append,List.length_append,List.length_replicate,List.length_map,List.length_map,hown]
theorem Zfo {n:Nat} {tg iter elt:Expr} {ifs:List Expr} {pos:Pos} {it:Addr} {fp:List Addr} {tn:Nat→Heap→Prop} {J:It} {cl:List (Str × Addr)} {g:TG} {tt:TT} {te:TE} {E:Value→Shared→Prop} {RR:Value→Addr→Result→Shared→Prop} {Q:VK}
   (hc:X.calm=true) (I2:Inv X pins σ H2 s2) (T:Turn X.prog X.w X.K tg J fp it tn) (st2:tn 0 s2.heap) (f2:∀ b∈fp,FpOk X pins H2 b)
   (hok:compOk scope X.env.scope=true) (hcap:capOk X scope caps) (hown:own.length=n) (hgo:gOwn n g)
   (cl1:∀ y c,cl.lookup y=some c→X.env.cells.lookup y=some c) (cl2:∀ y,(y,NameKind.free)∈scope.names→∃ c,cl.lookup y=some c)
   (hg:∀ C s₃ H₃,PG (compX X scope own caps cl C s₃ H₃ fp) tg g) (ht:∀ C s₃ H₃,PTs (compX X scope own caps cl C s₃ H₃ fp) ifs tt) (he:∀ C s₃ H₃,PE (compX X scope own caps cl C s₃ H₃ fp) elt te)
   (h:∀ D,H2 D=none→∃ W:Nat→Nat→Hp→Prop,(∃ m,W 0 m (upd H2 D (.lst [])))∧∀ i m H2,W i m H2 →
     (J.stop i H2∧Q (.ref D) H2)∨(J.go i H2∧∀ x H3,J.yld i H2 x H3→g x (capSt n caps σ) H3 fun σ4 H4=>tt σ4 H4 fun b H5 =>
       if b=true then te σ4 H5 fun y H6=>∃ xs,H6 D=some (.lst xs)∧xs.length<sizeLine∧∃ m',m'<m∧W (i+1) m' (upd H6 D (.lst (xs++[y]))) else ∃ m',m'<m∧W (i+1) m' H5))
   (hRR:∀ D C s' H' m,s'.heap.Ns C m→Inv X pins σ H' s'→FpOk X pins H' C→Q (.ref D) H'→RR (.ref D) C (.ok .next) s') :
   wpAny (model X.prog X.w) X.A (newList []) (fun acc s₃=>wpAny (model X.prog X.w) X.A (newFunctionEnv scope X.env.globals cl [] X.env.qual none .none (some X.env)) (fun cenv s₄ =>
     codeAny (model X.prog X.w) X.A (.compStart (.ListComp elt [⟨tg,iter,ifs,0⟩] scope pos) 0 (.ref it) acc { cenv with scope:=relabel scope X.env }) (RR acc cenv.locals) s₄) E s₃) E s2:=by
 refine wpAny_newList (items:=[]) (wpAny_newFunctionEnv (ZgB hok) (by intro y hy;simp at hy) (fun h₁ hns₁ hsb₁=>?_) (Zdn hok)) (by show 0≤sizeLine;decide);obtain ⟨W,⟨m0,w0⟩,turn⟩:=h s2.heap.objs.size I2.fresh;have I3:Inv X pins σ (upd H2 s2.heap.objs.size (.lst [])) { s2 with heap:=s2.heap.push { cls:=.type "list",data:=.seq ([]:List Value).toArray } }:=I2.lnew (t':=s2.toks) .nil (by show 0≤sizeLine;decide);generalize hs3:({ s2 with heap:=s2.heap.push { cls:=.type "list",data:=.seq ([]:List Value).toArray } }:Shared)=s₃ at *;have e3:s₃.heap.objs.size=s2.heap.objs.size+1:=by rw [← hs3];exact Heap.size_push _ _
 have k23:∀ b o,s2.heap.get? b=some o→s₃.heap.get? b=some o:=fun b o e=>by rw [← hs3];exact Heap.get?_push_of_some _ e
 have hold:∀ b o,s₃.heap.get? b=some o→h₁.get? b=some o:=fun b o e=>(hsb₁.2 b (Nat.ne_of_lt (Heap.lt_size e))).trans (Heap.get?_push_of_some _ e)
 have lt2:∀ b∈fp,b<s2.heap.objs.size:=fun b hb=>by
   obtain ⟨o,e,_⟩:=T.obj _ _ st2 b hb;exact Heap.lt_size e
 have f3:∀ b∈fp,FpOk X pins (upd H2 s2.heap.objs.size (.lst [])) b:=fun b hb=>by
   obtain ⟨z,r⟩:=f2 b hb;exact ⟨by rw [Zag (Nat.ne_of_lt (lt2 b hb))];exact z,r⟩
 have tn1:tn 0 h₁:=T.keep _ _ _ st2 fun b hb o e=>hold b o (k23 b o e)
 have I4:=Inv.comp (own:=own) (caps:=caps) (n:=n) (fp:=fp) (cl:=cl) (h4:=h₁) (tk:=s₃.toks+([]:List (Str × Value)).length) I3 hok hcap hown cl1 cl2 f3 (fun b hb=>by rw [e3];exact Nat.lt_succ_of_lt (lt2 b hb)) rfl (by simpa using hns₁) hold;have hXok:=I4.ok;have loop:codeAny (model X.prog X.w) X.A (.compLoop (.ListComp elt [⟨tg,iter,ifs,0⟩] scope pos) 0 (.ref it) (.ref s2.heap.objs.size) (compEnvC scope cl s₃.heap.objs.size X.env)) (RR (.ref s2.heap.objs.size) s₃.heap.objs.size) { s₃ with heap:=h₁,toks:=s₃.toks+([]:List (Str × Value)).length }:=by
   generalize hX:compX X scope own caps cl s₃.heap.objs.size s₃ (upd H2 s2.heap.objs.size (.lst [])) fp=X' at I4 hXok;have eP:X'.prog=X.prog:=by rw [← hX];rfl
   have eW:X'.w=X.w:=by rw [← hX];rfl
   have eK:X'.K=X.K:=by rw [← hX];rfl
   have eA:X'.A=X.A:=by rw [← hX];rfl
   have eC:X'.calm=true:=by rw [← hX];exact hc
   have eE:X'.env=compEnvC scope cl s₃.heap.objs.size X.env:=by rw [← hX];rfl
   have eL:X'.env.locals=s₃.heap.objs.size:=by rw [eE];rfl
   have eX:X'.xe=fun _ _=>False:=by rw [← hX];rfl
   have ePn:X'.pn=[]:=by rw [← hX];rfl
   have eEx:X'.ex=fp:=by rw [← hX];rfl
   have eFs:X'.fs=frs X.stack:=by rw [← hX];rfl
   have hg':=hg s₃.heap.objs.size s₃ (upd H2 s2.heap.objs.size (.lst []));have ht':=ht s₃.heap.objs.size s₃ (upd H2 s2.heap.objs.size (.lst []));have he':=he s₃.heap.objs.size s₃ (upd H2 s2.heap.objs.size (.lst []));have eS0:X'.s₀=s₃:=by rw [← hX];rfl
   have eH0:X'.H₀=upd H2 s2.heap.objs.size (.lst []):=by rw [← hX];rfl
   rw [hX] at hg' ht' he';have fpOk:∀ {H':Hp} (b:Addr),b∈fp→H' b=none→FpOk X' [] H' b:=fun b hb hn=>by
     refine ⟨hn,(hXok.exf b (eEx ▸ hb)).1,hXok.exfs b (eEx ▸ hb),.inl (eEx ▸ hb),(hXok.exf b (eEx ▸ hb)).2,fun p hp=>?_⟩;rw [ePn] at hp;cases hp
   rw [← eP,← eW,← eA,← eE];refine Zgd (fun n' s'=>∃ i H',Inv X' [] (capSt n caps σ) H' s'∧tn i s'.heap∧(∀ b∈fp,H' b=none)∧W i n' H') ?_ m0 ⟨0,_,I4,tn1,fun b hb=>(f3 b hb).1,w0⟩;rintro k s5 ⟨i,H5,I5,t5,fr5,w5⟩;have weaken:∀ {σ':St} {H':Hp} {s':Shared} {pl:List (Addr × Obj)},Inv X' pl σ' H' s'→σ'.length=(capSt n caps σ).length→σ'.drop n=(capSt n caps σ).drop n→Inv X' [] (capSt n caps σ) H' s':=fun {σ' H' s' pl} I' hl hd=>by
     have I'':Inv X' [] σ' H' s':=I'.pins_of fun p hp=>by cases hp
     refine I''.weak hl.symm fun j v e=>?_
     have hj:=(ZfF e).1;have q1:(σ'.drop n)[j-n]?=σ'[j]?:=by rw [List.getElem?_drop];congr 1;omega
     have q2:((capSt n caps σ).drop n)[j-n]?=(capSt n caps σ)[j]?:=by rw [List.getElem?_drop];congr 1;omega
     rw [← q1,hd,q2];exact e
   rcases turn i k H5 w5 with ⟨stop,qn⟩ | ⟨go,step⟩
   · have z:=T.done X' eP eW eK eC i [] s5 (capSt n caps σ) H5 (fun _ _=>False) I5 (fun b hb=>fpOk b hb (fr5 b hb)) t5 stop
     rw [← eP,← eW] at z;refine thn z fun r s6 ⟨hr,I6⟩=>?_
     subst hr;obtain ⟨m,hm,_⟩:=I6.loc;have ub:Un (frs X.stack) fp (upd H2 s2.heap.objs.size (.lst [])) H5 s₃.heap s6.heap:=by have z:=I6.base;rw [eFs,eEx,eS0,eH0] at z;exact z
     have u23:Un (frs X.stack) fp H2 (upd H2 s2.heap.objs.size (.lst [])) s2.heap s₃.heap:=Un.laid k23 (Nat.le_refl _) I2.fresh;have os6:s6.os=s2.os:=by rw [I6.os,eS0,← hs3]
     have hokk:HOk X.prog X.w H5 s6.heap:=by have z:=I6.hok;rw [eP,eW] at z;exact z
     have Iend:Inv X pins σ H5 s6:=I2.call' os6 (u23.trans ub) hokk I6.bare fun b hb=>⟨(f2 b hb).2.2.2.1,(f2 b hb).2.1,(f2 b hb).2.2.2.2.1,(f2 b hb).2.2.2.2.2⟩
     have hCn:H5 s₃.heap.objs.size=none:=by have z:=I6.free;rw [eL] at z;exact z
     rw [eL] at hm;exact hRR _ _ s6 H5 m hm Iend (I3.fpOk (Nat.le_refl _) hCn) qn
   · have z:=T.item X' eP eW eK eC i [] s5 (capSt n caps σ) H5 (fun _ _=>False) I5 (fun b hb=>fpOk b hb (fr5 b hb)) t5 go
     rw [← eP,← eW] at z;refine thn z fun r s6 ⟨u,hr,h6⟩=>?_
     subst hr;refine thn h6 fun _ s7 ⟨x,H7,I7,r7,y7,t7,fr7⟩=>?_
     have I7':=I7.pinned (fun b hb=>fpOk b hb (fr7 b hb)) (T.obj _ _ t7);have pinD:∀ {σ':St} {H':Hp} {s':Shared},Inv X' ([]++pinsAt fp s7.heap) σ' H' s'→tn (i+1) s'.heap∧∀ b∈fp,H' b=none:=fun {σ' H' s'} I'=>by
       have pin:∀ b∈fp,∀ o,s7.heap.get? b=some o→s'.heap.get? b=some o∧H' b=none:=fun b hb o e=>by
         have z:=I'.pin (b,o) (List.mem_append_right _ (List.mem_append_right _ (ZcQ hb e)));exact ⟨z.1,z.2.1⟩
       refine ⟨T.keep _ _ _ t7 fun b hb o e=>(pin b hb o e).1,fun b hb=>?_⟩;obtain ⟨o,e,_⟩:=T.obj _ _ t7 b hb;exact (pin b hb o e).2
     have xf:∀ {α:Type} {t:Sem α} {Q':α→Shared→Prop} {s':Shared},wpAny (model X'.prog X'.w) X'.A t Q' X'.xe s'→wpAny (model X'.prog X'.w) X'.A t Q' (fun _ _=>False) s':=fun z=>by rw [eX] at z;exact z
     refine thn (xf (hg' _ s7 (capSt n caps σ) H7 x u _ I7' r7 (hgo _ _ _ _ (step x H7 y7)))) fun _ s8 ⟨σ8,H8,I8,⟨l8,d8⟩,q8⟩=>?_
     refine thn (xf (ht' _ s8 σ8 H8 _ I8 q8)) fun b s9 ⟨H9,I9,q9⟩=>?_
     cases b with
     | false =>
       rw [if_neg Bool.false_ne_true];obtain ⟨m',hm,w9⟩:=(show ∃ m',m'<k∧W (i+1) m' H9 by simpa using q9)
       obtain ⟨t9,fr9⟩:=pinD I9;exact ⟨m',hm,i+1,H9,weaken I9 l8 d8,t9,fr9,w9⟩
     | true =>
       rw [if_pos rfl];rw [if_pos rfl] at q9;refine thn (xf (he' _ s9 σ8 H9 _ I9 q9)) fun v s10 ⟨y,H10,I10,r10,xs,hD,hlen,m',hm,w10⟩=>?_
       refine thn (xf (ZcH _ s10 σ8 H10 (.ref s2.heap.objs.size) [y] (.ref s2.heap.objs.size) [v] (fun _ H'=>H'=upd H10 s2.heap.objs.size (.lst (xs++[y]))) I10 rfl (.cons r10 .nil) ⟨_,xs,y,rfl,rfl,hD,hlen,rfl⟩)) fun _ s11 ⟨_,H11,I11,_,e11⟩=>?_
       subst e11;obtain ⟨t11,fr11⟩:=pinD I11;exact ⟨m',hm,i+1,_,weaken I11 l8 d8,t11,fr11,w10⟩
 exact codeAny_compStart_list loop (T.self _ 0 _ _ _ tn1 loop)
theorem Inv.closure (I:Inv X pins σ H2 s2)(hok:compOk scope X.env.scope=true):∃ cl,closureFor scope X.env=pure cl∧(∀ y c,cl.lookup y=some c→X.env.cells.lookup y=some c)∧∀ y,(y,NameKind.free)∈scope.names→∃ c,cl.lookup y=some c :=
 Zh2 fun z hz e=>I.ok.has z.1 (cok_free hok z hz e)
end
section
variable {X:Cx}{tg iter elt:Expr}{ifs:List Expr}{scope:Scope}{pos:Pos}{wi:TI}{g:TG}{tt:TT}{te:TE}{n:Nat}
theorem Zbq (own:List Str)(caps:List Nat)(hc:X.calm=true)(hi:PI X tg iter wi)(hg:∀ cl C s₃ H₃ fp,PG (compX X scope own caps cl C s₃ H₃ fp) tg g)(ht:∀ cl C s₃ H₃ fp,PTs (compX X scope own caps cl C s₃ H₃ fp) ifs tt)
   (he:∀ cl C s₃ H₃ fp,PE (compX X scope own caps cl C s₃ H₃ fp) elt te) (hcap:capOk X scope caps) (hgo:gOwn own.length g) (hok:compOk scope X.env.scope=true:=by rfl)
   (hs:∀ x,foldedSetIterable iter X.env x=pure x:=by intro _;rfl):PE X (.ListComp elt [⟨tg,iter,ifs,0⟩] scope pos) (tComp own.length caps wi g tt te):=by
 intro pins s σ H Q I h;obtain ⟨cl,hcl,cl1,cl2⟩:=I.closure hok;rw [eval_ListComp];refine wpAny_comprehension_free (use:=none) rfl hs hcl (Zdn hok) (ZiJ hok) (thn (hi pins s σ H _ I h) fun v s1 h1=>thn h1 fun itv s2 h2=>?_);obtain ⟨it,fp,tn,J,H2,e,I2,T,st2,f2,h3⟩:=h2;subst e;refine Zfo (RR:=fun acc C=>compPost (model X.prog X.w) X.A X.xe none (EP X pins σ Q) acc C) (own:=own) (caps:=caps) (n:=own.length) (Q:=Q) hc I2 T st2 f2 hok hcap rfl hgo cl1 cl2 (fun C s₃ H₃=>hg cl C s₃ H₃ fp) (fun C s₃ H₃=>ht cl C s₃ H₃ fp) (fun C s₃ H₃=>he cl C s₃ H₃ fp) h3 ?_;intro D C s' H' m hm I' hC q;refine ⟨m,hm,fun h' hsb=>⟨.ref D,H',?_,rfl,q⟩⟩;exact I'.turned (it:=C) (t':=s'.toks) (fun b o hb e=>(hsb.2 b hb).trans e) hC.1 hC.2.1 hC.2.2.2.1 hC.2.2.2.2.1 hC.2.2.2.2.2
theorem ZcW {i:Nat}{x:Str}{pos' spos:Pos}(own:List Str)(caps:List Nat)(hN:X.N.Nodup)(hx0:X.N[i]?=some x)(hx:Loc X.env.scope x)(hc:X.calm=true)(hi:PI X tg iter wi)(hg:∀ cl C s₃ H₃ fp,PG (compX X scope own caps cl C s₃ H₃ fp) tg g)(ht:∀ cl C s₃ H₃ fp,PTs (compX X scope own caps cl C s₃ H₃ fp) ifs tt)
   (he:∀ cl C s₃ H₃ fp,PE (compX X scope own caps cl C s₃ H₃ fp) elt te) (hcap:capOk X scope caps) (hgo:gOwn own.length g) (hok:compOk scope X.env.scope=true:=by rfl)
   (hs:∀ x,foldedSetIterable iter X.env x=pure x:=by intro _;rfl) (hsw:swapsWith (.ListComp elt [⟨tg,iter,ifs,0⟩] scope pos) (some (.Name x pos')) spos.line X.env=pure true:=by rfl)
   (hf:X.fn x=true∨X.env.scope.names.lookup x=some .local:=by first | exact .inl rfl | exact .inr rfl | assumption):PS X (.Assign [.Name x pos'] (.ListComp elt [⟨tg,iter,ifs,0⟩] scope pos) spos) (tAsg (tComp own.length caps wi g tt te) (gName i)):=by
 intro pins s σ H D I h;obtain ⟨cl,hcl,cl1,cl2⟩:=I.closure hok;rw [exec_Assign_Name_used _ _ _ _ hsw];refine wpAny_bind (wpAny_standAt (wpAny_bind ?_));show wpAny _ _ (do let _ ← comprehension (.ListComp elt [⟨tg,iter,ifs,0⟩] scope pos) scope X.env _ (newList []) false (eval iter X.env) (some (assign (.Name x pos') X.env))) _ _ s;refine wpAny_bind (wpAny_mono (wpAny_comprehension_free (use:=some (assign (.Name x pos') X.env)) (Q:=fun _ s'=>SP X pins D .next s') rfl hs hcl (Zdn hok) (ZiJ hok)
   (thn (hi pins s σ H _ I h) fun v s1 h1=>thn h1 fun itv s2 h2=>?_)) (fun _ s' hq=>wpAny_pure (wpAny_pure hq)) fun _ _ e=>e)
 obtain ⟨it,fp,tn,J,H2,e,I2,T,st2,f2,h3⟩:=h2;subst e;refine Zfo (RR:=fun acc C=>compPost (model X.prog X.w) X.A X.xe (some (assign (.Name x pos') X.env)) (fun _ s'=>SP X pins D .next s') acc C) (own:=own) (caps:=caps) (n:=own.length) (Q:=fun x H1=>gName i x σ H1 D.nx) hc I2 T st2 f2 hok hcap rfl hgo cl1 cl2 (fun C s₃ H₃=>hg cl C s₃ H₃ fp) (fun C s₃ H₃=>ht cl C s₃ H₃ fp) (fun C s₃ H₃=>he cl C s₃ H₃ fp) h3 ?_;intro A' C s' H' m hm I' hC q;obtain ⟨o,es,ep,ho,hd,r⟩:=id hm;have I'':Inv X (pins++[(C,o)]) σ H' s':=I'.pins_of fun p hp=>by
   rcases List.mem_append.mp hp with z | z
   · exact I'.pin p (List.mem_append_right _ z)
   · have e:p=(C,o):=by simpa using z
     subst e;exact ⟨ho,hC.1,hC.2.1,hC.2.2.1,fun v e=>by rw [hd] at e;cases e⟩
 refine thn (Zas hN hx0 hx hf _ s' σ H' (.ref A') (.ref A') _ I'' rfl q) fun _ s2' ⟨σ2,H3',I3,q3⟩=>?_
 have p3:=I3.pin (C,o) (List.mem_append_right _ (List.mem_append_right _ (by simp)));refine ⟨m,⟨o,es,ep,p3.1,hd,r⟩,fun h' hsb=>⟨σ2,H3',?_,q3⟩⟩;exact (I3.unpinned (pl:=[(C,o)])).turned (it:=C) (t':=s2'.toks) (fun b o hb e=>(hsb.2 b hb).trans e) p3.2.1 p3.2.2.1 hC.2.2.2.1 hC.2.2.2.2.1 hC.2.2.2.2.2
end
end L2
namespace L2
open PySem PySem.Spec PyProof.Rows
theorem ZeN:bootBuiltins "isinstance"=some (.builtin "isinstance"):=by decide +kernel
section
variable {X:Cx}
def vOf:V→Option Value
 | .ty n=>some (.type n)
 | .ref a=>some (.ref a)
 | _=>none
def rIsi (K:PySem.W.Frag):List V→Hp→VK→Prop:=fun xs H Q=>∃ x y c t b,xs=[x,y]∧vOf y=some c∧TyOf K H x t∧PySem.W.kitOne K t c=some b∧Q (.bl b) H
theorem call_isi:CallR X (.builtin "isinstance") (rIsi X.K):=by
 intro pins s σ H xs us Q I r h;obtain ⟨x,y,c,t,b,rfl,hy,ht,hk,q⟩:=h;obtain ⟨u,v,rfl,ru,rv⟩:=r.two;have ev:v=c:=by
   cases y with
   | ty n=>cases (show v=Value.type n from rv);exact Option.some.inj hy
   | ref a=>cases (show v=Value.ref a from rv);exact Option.some.inj hy
   | _=>cases hy
 subst ev;exact Zj1 I ru ht hk fun tk=>⟨.bl b,H,I.tok _,rfl,q⟩
theorem Zfc {a:Int}{k:Nat}(h:a.natAbs<2^k):Builtin.Int.intBits a≤k:=by
 unfold Builtin.Int.intBits;split
 · exact Nat.zero_le _
 · rename_i hz
   have h0:a.natAbs≠0:=by
     intro e;have:a=0:=by omega
     subst this;exact hz rfl
   have:=(Nat.log2_lt h0).mpr h;omega
def CShl (i j:Int):Prop:=0≤j∧j≤1000000∧i.natAbs<2^1000
theorem Zdx:OpR X (binaryOp .LShift) (rI CShl fun i j=>.int (i*2^j.toNat)):=opI fun i j _ _ _ _ _ hc q=>by
 have h1:=Zfc hc.2.2;have h2:=hc.2.1;exact lshift_int hc.1 (by omega) q
def rBitLen:V→List V→Hp→VK→Prop:=fun x vs H Q=>∃ i,x=.int i∧vs=[]∧Q (.int (Builtin.Int.intBits i)) H
theorem ZjK:MtR X "int.bit_length" rBitLen:=by intro pins s σ H x vs v us Q I rx rv h;obtain ⟨i,rfl,rfl,q⟩:=h;obtain ⟨t,rfl⟩:=rx;cases rv.zero;exact call_int_bit_length ⟨.int _,H,I.tok _,⟨_,rfl⟩,q⟩
end
def LoopJ (J:It)(g:TG)(tb:TS)(D:Ends)(σ:St)(H:Hp):Prop:=∃ W:Nat→Nat→St→Hp→Prop,(∃ m,W 0 m σ H)∧∀ i m σ H,W i m σ H →
 (J.stop i H∧D.nx σ H)∨(J.go i H∧∃ N:St→Hp→Prop,(∀ σ' H',N σ' H'→∃ m',m'<m∧W (i+1) m' σ' H')∧∀ x H',J.yld i H x H'→g x σ H' fun σ2 H2=>tb { D with nx:=N,ct:=N,bk:=D.nx } σ2 H2)
theorem Zjc {wi:TI}{g:TG}{tb:TS}{D:Ends}{σ:St}{H:Hp}:tFor wi g tb D σ H=wi σ H fun J H1=>LoopJ J g tb D σ H1:=rfl
theorem loopR {lo:Int}{n:Nat}{g:TG}{tb:TS}{D:Ends}{σ:St}{H:Hp}(Pv:Nat→St→Hp→Prop)(h0:Pv 0 σ H)
   (hs:∀ i σ H,i<n→Pv i σ H→g (.int (lo+i)) σ H fun σ2 H2=>tb { D with nx:=Pv (i+1),ct:=Pv (i+1),bk:=D.nx } σ2 H2) (hd:∀ σ H,Pv n σ H→D.nx σ H):LoopJ (Itr lo n) g tb D σ H:=Zjx Pv h0 hs hd
theorem loopL {K:PySem.W.Frag}{a:Addr}{xs:List V}{g:TG}{tb:TS}{D:Ends}{σ:St}{H:Hp}(Pv:Nat→St→Hp→Prop)(h0:Pv 0 σ H)(hl:∀ i σ H,i≤xs.length→Pv i σ H→SqL K H a xs)
   (hs:∀ i x σ H,xs[i]?=some x→Pv i σ H→g x σ H fun σ2 H2=>tb { D with nx:=Pv (i+1),ct:=Pv (i+1),bk:=D.nx } σ2 H2) (hd:∀ σ H,Pv xs.length σ H→D.nx σ H):LoopJ (Itl K a) g tb D σ H:=for_list Pv h0 hl hs hd
def CompJ (J:It) (n:Nat) (caps:List Nat) (g:TG) (tt:TT) (te:TE) (σ:St) (H1:Hp) (Q:VK):Prop:=∀ D,H1 D=none→∃ W:Nat→Nat→Hp→Prop,(∃ m,W 0 m (upd H1 D (.lst [])))∧∀ i m H2,W i m H2 →
 (J.stop i H2∧Q (.ref D) H2)∨(J.go i H2∧∀ x H3,J.yld i H2 x H3→g x (capSt n caps σ) H3 fun σ4 H4=>tt σ4 H4 fun b H5 =>
   if b=true then te σ4 H5 fun y H6=>∃ xs,H6 D=some (.lst xs)∧xs.length<sizeLine∧∃ m',m'<m∧W (i+1) m' (upd H6 D (.lst (xs++[y]))) else ∃ m',m'<m∧W (i+1) m' H5)
theorem Zhi {n:Nat}{caps:List Nat}{wi:TI}{g:TG}{tt:TT}{te:TE}{σ:St}{H:Hp}{Q:VK}:tComp n caps wi g tt te σ H Q=wi σ H fun J H1=>CompJ J n caps g tt te σ H1 Q:=rfl
theorem compPure {J:It} {m n:Nat} {caps:List Nat} {g:TG} {tt:TT} {te:TE} {σ:St} {H1:Hp} {Q:VK} (x:Nat→V) (p:Nat→Bool) (f:Nat→V) (hn:n≤1000000)
   (hstop:∀ H2,Same H1 H2→J.stop n H2) (hgo:∀ i H2,i<n→Same H1 H2→J.go i H2) (hy:∀ i H2 v H3,i<n→Same H1 H2→J.yld i H2 v H3→v=x i∧H3=H2)
   (hg:∀ i H2 R,i<n→Same H1 H2→(∀ σ4,σ4=(capSt m caps σ).set 0 (some (x i))→R σ4 H2)→g (x i) (capSt m caps σ) H2 R)
   (ht:∀ i H2 R,i<n→Same H1 H2→R (p i) H2→tt ((capSt m caps σ).set 0 (some (x i))) H2 R)
   (he:∀ i H2 R,i<n→p i=true→Same H1 H2→R (f i) H2→te ((capSt m caps σ).set 0 (some (x i))) H2 R)
   (hq:∀ D,H1 D=none→Q (.ref D) (upd H1 D (.lst (((List.range n).filter p).map f)))):CompJ J m caps g tt te σ H1 Q:=by
 intro D hD;have same:∀ l,Same H1 (upd H1 D (.lst l)):=fun l b o e=>by rw [Zag (Zar e hD)];exact e
 refine ⟨fun i k H2=>k=n-i∧i≤n∧H2=upd H1 D (.lst (((List.range i).filter p).map f)),⟨n,rfl,Nat.zero_le _,rfl⟩,?_⟩;rintro i k H2 ⟨rfl,hi,rfl⟩;by_cases hlt:i<n
 · refine .inr ⟨hgo i _ hlt (same _),fun v H3 y=>?_⟩
   obtain ⟨rfl,rfl⟩:=hy i _ v H3 hlt (same _) y;refine hg i _ _ hlt (same _) fun σ4 e4=>?_
   subst e4;refine ht i _ _ hlt (same _) ?_;have step:(List.range (i+1)).filter p=(List.range i).filter p++if p i=true then [i] else []:=by
     rw [List.range_succ,List.filter_append];congr 1
     cases hp:p i<;>simp [hp]
   cases hp:p i with
   | true =>
     rw [if_pos rfl];refine he i _ _ hlt hp (same _) ⟨_,Zac,?_,n-(i+1),by omega,rfl,hlt,?_⟩
     · rw [List.length_map]
       refine Nat.lt_of_le_of_lt (List.length_filter_le _ _) ?_;rw [List.length_range,sizeLine_eq];omega
     · rw [upd_upd,step,hp,if_pos rfl,List.map_append]
       rfl
   | false =>
     rw [if_neg Bool.false_ne_true];refine ⟨n-(i+1),by omega,rfl,hlt,?_⟩;rw [step,hp,if_neg Bool.false_ne_true,List.append_nil]
 · have e:i=n:=by omega
   subst e;exact .inl ⟨hstop _ (same _),hq D hD⟩
theorem compR {lo:Int}{m n:Nat}{caps:List Nat}{tt:TT}{te:TE}{σ:St}{H1:Hp}{Q:VK}(p:Nat→Bool)(f:Nat→V)(hn:n≤1000000)
   (ht:∀ i H2 R,i<n→Same H1 H2→R (p i) H2→tt ((capSt m caps σ).set 0 (some (.int (lo+i)))) H2 R)
   (he:∀ i H2 R,i<n→p i=true→Same H1 H2→R (f i) H2→te ((capSt m caps σ).set 0 (some (.int (lo+i)))) H2 R)
   (hq:∀ D,H1 D=none→Q (.ref D) (upd H1 D (.lst (((List.range n).filter p).map f)))):CompJ (Itr lo n) m caps (gName 0) tt te σ H1 Q :=
 compPure (fun i=>.int (lo+i)) p f hn (fun _ _=>Nat.le_refl _) (fun _ _ h _=>h) (fun _ _ _ _ _ _ h=>⟨h.2,h.1⟩) (fun _ _ _ _ _ h=>h _ rfl) ht he hq
theorem Zb5 {α β:Type}(p:α→Bool)(f:α→β):∀ (xs:List α) (P:Nat→Bool) (F:Nat→β),(∀ i x,xs[i]?=some x→P i=p x∧F i=f x)→((List.range xs.length).filter P).map F=(xs.filter p).map f
 | [],_,_,_=>rfl
 | x::r,P,F,h=>by
   have e:List.range (x::r).length=0::(List.range r.length).map Nat.succ:=by rw [List.length_cons,List.range_succ_eq_map]
   have ih:=Zb5 p f r (P ∘ Nat.succ) (F ∘ Nat.succ) fun i y hy=>h (i+1) y (by simpa using hy)
   obtain ⟨h1,h2⟩:=h 0 x rfl;rw [e,List.filter_cons,List.filter_cons,h1,List.filter_map];split
   · rw [List.map_cons,List.map_cons,h2,List.map_map,ih]
   · rw [List.map_map,ih]
theorem compL {K:PySem.W.Frag}{a:Addr}{xs:List V}{m:Nat}{caps:List Nat}{tt:TT}{te:TE}{σ:St}{H1:Hp}{Q:VK}(p:V→Bool)(f:V→V)(hS:SqL K H1 a xs)(hn:xs.length≤1000000)
   (ht:∀ x H2 R,x∈xs→Same H1 H2→R (p x) H2→tt ((capSt m caps σ).set 0 (some x)) H2 R)
   (he:∀ x H2 R,x∈xs→p x=true→Same H1 H2→R (f x) H2→te ((capSt m caps σ).set 0 (some x)) H2 R)
   (hq:∀ D,H1 D=none→Q (.ref D) (upd H1 D (.lst ((xs.filter p).map f)))):CompJ (Itl K a) m caps (gName 0) tt te σ H1 Q:=by
 have get:∀ i,i<xs.length→xs[i]?=some (xs.getD i .non):=fun i hi=>by rw [List.getD_eq_getElem?_getD,List.getElem?_eq_getElem hi];rfl
 have mem:∀ i,i<xs.length→xs.getD i .non∈xs:=fun i hi=>List.mem_of_getElem? (get i hi)
 refine compPure (fun i=>xs.getD i .non) (fun i=>p (xs.getD i .non)) (fun i=>f (xs.getD i .non)) hn (fun H2 s=>⟨xs,s.seq hS,Nat.le_refl _⟩) (fun i H2 hi s=>⟨xs,_,s.seq hS,get i hi⟩)
   (fun i H2 v H3 hi s y=>⟨?_,y.1⟩) (fun i H2 R hi _ h=>h _ rfl) (fun i H2 R hi s h=>ht _ H2 R (mem i hi) s h) (fun i H2 R hi hp s h=>he _ H2 R (mem i hi) hp s h) (fun D hD=>?_)
 · have:=y.2 xs (s.seq hS)
   rw [get i hi] at this;exact (Option.some.inj this).symm
 · have:=Zb5 p f xs (fun i=>p (xs.getD i .non)) (fun i=>f (xs.getD i .non)) fun i x hx=>by
     have:xs.getD i .non=x:=by rw [List.getD_eq_getElem?_getD,hx];rfl
     rw [this];exact ⟨rfl,rfl⟩
   rw [this];exact hq D hD
section
variable {D:Ends}{σ:St}{H:Hp}{Q:VK}{QT:Bool→Hp→Prop}{QA:List V→Hp→Prop}{ta tb tc:TE}{t u:TS}{tA tB':TT}{te:TE}{tl:TA}{r r':R2}
theorem Zji:tSeq t u D σ H=t { D with nx:=u D } σ H:=rfl
theorem Zhk:tNext D σ H=D.nx σ H:=rfl
theorem Zjq {g:TG}:tAsg te g D σ H=te σ H fun x H1=>g x σ H1 D.nx:=rfl
theorem Zen {i:Nat}{v:V}{R:St→Hp→Prop}:gName i v σ H R=R (σ.set i (some v)) H:=rfl
theorem Zdh {i:Nat}:tVar i σ H Q=∃ v,σ[i]?=some (some v)∧Q v H:=rfl
theorem tC_ap {v:V}:tC v σ H Q=Q v H:=rfl
theorem Ze0:tOp r ta tb σ H Q=ta σ H fun x H1=>tb σ H1 fun y H2=>r x y H2 Q:=rfl
theorem tUn_ap {r:V→Hp→VK→Prop}:tUn r ta σ H Q=ta σ H fun x H1=>r x H1 Q:=rfl
theorem rI_ap {C:Int→Int→Prop}{g:Int→Int→V}{x y:V}:rI C g x y H Q=∃ i j,x=.int i∧y=.int j∧C i j∧Q (g i j) H:=rfl
theorem rI0_ap {g:Int→Int→V}{x y:V}:rI0 g x y H Q=∃ i j,x=.int i∧y=.int j∧Q (g i j) H:=rfl
theorem rU_ap {g:Int→V}{x:V}:rU g x H Q=∃ i,x=.int i∧Q (g i) H:=rfl
theorem rEq_ap {x y:V}:rEq x y H Q=(scal x y=true∧Q (.bl (decide (x=y))) H):=rfl
theorem rNe_ap {x y:V}:rNe x y H Q=(scal x y=true∧Q (.bl (!decide (x=y))) H):=rfl
theorem scal_ii {i j:Int}:scal (.int i) (.int j)=true:=rfl
theorem scal_bb {i j:Bool}:scal (.bl i) (.bl j)=true:=rfl
theorem scal_ss {i j:Str}:scal (.str i) (.str j)=true:=rfl
theorem ZiL:tRet te D σ H=te σ H D.rt:=rfl
theorem ZgK:tDrop te D σ H=te σ H fun _ H1=>D.nx σ H1:=rfl
theorem Zi2:tIfS tA t u D σ H=tA σ H fun b H1=>if b=true then t D σ H1 else u D σ H1:=rfl
theorem ZgM:tTest te σ H QT=te σ H fun x H'=>∃ k,x=.bl k∧QT k H':=rfl
theorem tB_ap:tB te σ H QT=te σ H fun x H1=>∃ c,x=.bl c∧QT c H1:=rfl
theorem Zjn:tAnd tA tB' σ H QT=tA σ H fun c H1=>if c=true then tB' σ H1 QT else QT false H1:=rfl
theorem tOr_ap:tOr tA tB' σ H QT=tA σ H fun c H1=>if c=true then QT true H1 else tB' σ H1 QT:=rfl
theorem ZiI:tNot tA σ H QT=tA σ H fun c H1=>QT (!c) H1:=rfl
theorem ZgF:tAndV ta tb σ H Q=ta σ H fun x H1=>∃ c,x=.bl c∧if c=true then tb σ H1 Q else Q (.bl false) H1:=rfl
theorem Zhh:tNotV ta σ H Q=ta σ H fun x H1=>∃ c,x=.bl c∧Q (.bl (!c)) H1:=rfl
theorem tIf_ap:tIf tA ta tb σ H Q=tA σ H fun c H1=>if c=true then ta σ H1 Q else tb σ H1 Q:=rfl
theorem ZgN {sp:Sp}{dvs:List V}{E:XK}:tCall sp dvs E tl σ H Q=tl σ H fun vs H1=>sp (vs++dvs) H1 Q E:=rfl
theorem Zgr:tNil σ H QA=QA [] H:=rfl
theorem Zeo:tCons ta tl σ H QA=ta σ H fun x H1=>tl σ H1 fun xs H2=>QA (x::xs) H2:=rfl
theorem ZiV:tTup tl σ H Q=tl σ H fun xs H1=>xs.length≤sizeLine∧∀ p,H1 p=none→Q (.ref p) (upd H1 p (.tup xs)):=rfl
theorem Zgi:tLst tl σ H Q=tl σ H fun xs H1=>xs.length≤sizeLine∧∀ p,H1 p=none→Q (.ref p) (upd H1 p (.lst xs)):=rfl
theorem tCB_ap {r:List V→Hp→VK→Prop}:tCB r tl σ H Q=tl σ H fun vs H1=>r vs H1 Q:=rfl
theorem tBM_ap {K:PySem.W.Frag}{T:String}{r:V→List V→Hp→VK→Prop}:tBM K T r te tl σ H Q=te σ H fun x H1=>tyV K T x H1∧tl σ H1 fun xs H2=>r x xs H2 Q:=rfl
theorem Zi3 {K:PySem.W.Frag}{T:String}{r:V→List V→Hp→VK→Prop}:tBM0 K T r te σ H Q=te σ H fun x H1=>tyV K T x H1∧r x [] H1 Q:=rfl
theorem tyV_int {K:PySem.W.Frag}{i:Int}:tyV K "int" (.int i) H:=rfl
theorem tyV_list {K:PySem.W.Frag}{p:Addr}:tyV K "list" (.ref p) H↔∃ xs,SqL K H p xs:=by unfold tyV;simp
theorem ZiY {K:PySem.W.Frag}{x y:V}:rIxL K x y H Q=∃ p xs i v,x=.ref p∧y=.int i∧SqL K H p xs∧atI xs i=some v∧Q v H:=rfl
theorem ZiK {K:PySem.W.Frag}{x y:V}:rIxT K x y H Q=∃ p xs i v,x=.ref p∧y=.int i∧SqT K H p xs∧atI xs i=some v∧Q v H:=rfl
theorem ZeS {x:V}{vs:List V}:rAppend x vs H Q=∃ l xs y,x=.ref l∧vs=[y]∧H l=some (.lst xs)∧xs.length<sizeLine∧Q .non (upd H l (.lst (xs++[y]))):=rfl
theorem Zev {x:V}{vs:List V}:rBitLen x vs H Q=∃ i,x=.int i∧vs=[]∧Q (.int (Builtin.Int.intBits i)) H:=rfl
theorem Zed {x y:V}:rCat x y H Q=∃ l b xs zs,x=.ref l∧y=.ref b∧H l=some (.lst xs)∧H b=some (.lst zs)∧xs.length+zs.length≤sizeLine∧∀ p,H p=none→Q (.ref p) (upd H p (.lst (xs++zs))):=rfl
theorem Zgx {x y:V}:rRep x y H Q=∃ l k xs,x=.ref l∧y=.int k∧H l=some (.lst xs)∧-(2^63)≤k∧k<2^63∧xs.length*k.toNat≤sizeLine∧∀ p,H p=none→Q (.ref p) (upd H p (.lst (List.replicate k.toNat xs).flatten)):=rfl
theorem Zhe {R:It→Hp→Prop}:iRng1 tl σ H R=tl σ H fun vs H1=>∃ j:Int,vs=[.int j]∧-(2^62)≤j∧j<2^62∧R (Itr 0 j.toNat) H1:=rfl
theorem Zg5 {K:PySem.W.Frag}{R:It→Hp→Prop}:iList K te σ H R=te σ H fun x H1=>∃ a,x=.ref a∧(∃ xs,SqL K H1 a xs)∧R (Itl K a) H1:=rfl
theorem ZeZ:tNoTest σ H QT=QT true H:=rfl
theorem rIsi_int {K:PySem.W.Frag}{i:Int}:rIsi K [.int i,.ty "int"] H Q↔Q (.bl true) H :=
 ⟨fun ⟨x,y,c,t,b,e,hy,ht,hk,q⟩=>by
   cases e;cases hy;cases ht;cases hk;exact q,fun q=>⟨_,_,_,_,true,rfl,rfl,.int i,rfl,q⟩⟩
theorem Zj6 {K:PySem.W.Frag}{i:Int}:rIsi K [.int i,.ty "bool"] H Q↔Q (.bl false) H :=
 ⟨fun ⟨x,y,c,t,b,e,hy,ht,hk,q⟩=>by
   cases e;cases hy;cases ht;cases hk;exact q,fun q=>⟨_,_,_,_,false,rfl,rfl,.int i,rfl,q⟩⟩
theorem Zg3 {K:PySem.W.Frag}{k:Bool}:rIsi K [.bl k,.ty "bool"] H Q↔Q (.bl true) H :=
 ⟨fun ⟨x,y,c,t,b,e,hy,ht,hk,q⟩=>by
   cases e;cases hy;cases ht;cases hk;exact q,fun q=>⟨_,_,_,_,true,rfl,rfl,.bl k,rfl,q⟩⟩
end
end L2
namespace L2
open PySem PySem.Spec PyProof.Rows
def FnAt (P:Program)(w:World)(K:PySem.W.Frag)(mg:Str→Option Value)(base:Heap)(x:Str)(ps:List Str)(k:Nat)(sp:Sp):Prop :=
 ∃ f fd,FnOk P w K mg base CX0 k f fd ps sp∧mg x=some (.ref f)∧PySem.W.keepIn K (.ref f)=true∧Binds K fd ps []
def DefAt (K:PySem.W.Frag)(mg:Str→Option Value)(x:Str)(st:Stmt)(ps:List Str):Prop:=∃ f fd,Fun K x x st f fd∧mg x=some (.ref f)∧Binds K fd ps []
section
variable {P:Program}{w:World}{K:PySem.W.Frag}{mg:Str→Option Value}{base:Heap}
theorem FnAt.of {x:Str}{st:Stmt}{N ps:List Str}{k:Nat}{sp:Sp}(d:DefAt K mg x st ps)(S:FnScope N ps (defScope st))(len:∀ vs H Q E,sp vs H Q E→vs.length=ps.length)
   (hbody:∀ (f:Addr) (cdv:Value) (A:Around) (outer:List Env) (s:Shared) (H:Hp) (vs:List V) (Q:VK) (E:XK),Room k (A.deeper (envOfC x (defScope st) s.heap.objs.size f cdv))→sp vs H Q E →
     ∃ t,PSs (cxOf CX0 P w K mg base N x (defScope st) f cdv A outer s H E).nox (defBody st) t∧t { nx:=fun _ H'=>Q .non H',rt:=Q } (start N vs) H):FnAt P w K mg base x ps (k+1) sp:=by
 obtain ⟨f,fd,F,m,b⟩:=d;exact ⟨f,fd,F.ok S len (hbody f),m,F.kp,b⟩
theorem Zap {h:Heap}{x:Str}{st:Stmt}{ps:List Str}{f:Addr}{oc:Value}{od an:Option Addr}{osl:Array (Option Value)}{kV doc pm cdv ct:Value}(X:K.In h)(G:h.Ns mainGlobals mg)(a:PySem.W.nsIn K mainGlobals x=some (some (.ref f)))
   (l:K.lookup f=some ⟨oc,od,.func (PySem.W.fnOf x x (defArgs st) (defBody st) (defScope st) .none kV doc pm an cdv ct),osl⟩) (c:PySem.W.codeIn K cdv x=true) (k:PySem.W.keepIn K (.ref f)=true)
   (hb:∀ (kV doc pm:Value) (an:Option Addr) (cdv ct:Value) (us:List Value),us.length=ps.length→bindArgs (PySem.W.fnOf x x (defArgs st) (defBody st) (defScope st) .none kV doc pm an cdv ct) ⟨us,[]⟩=pure (ps.zip us)):DefAt K mg x st ps :=
 ⟨f,_,ZcU l c k,PySem.W.mg_of X G a,(ZcU l c k).binds hb⟩
end
section
variable {X:Cx}{x:Str}{ps:List Str}{k:Nat}{sp:Sp}{e:Expr}{es:List Expr}{t:TA}{p pos:Pos}
theorem Zad (F:FnAt X.prog X.w X.K X.mg X.base x ps k sp)(hr:Room k X.A)(hg:Gl X x)(ha:PA X (e::es) t)
   (he:starEach (e::es) X.env=(false,eval e X.env)::starEach es X.env:=by rfl) (hdb:(x==("__debug__":Str))=false:=by decide) (hpl:(backTo pos (starEach es X.env)).any (·.1)=false:=by rfl):PE X (.Call (.Name x p) (e::es) [] pos) (tCall sp [] E0 t):=by
 obtain ⟨f,fd,G,m,kp,b⟩:=F;exact pe_call G hr hg m kp b .nil pass0 ha hdb he hpl
end
section
variable {X:Cx}
def rLen (K:PySem.W.Frag):List V→Hp→VK→Prop:=fun xs H Q=>∃ p ys,xs=[.ref p]∧(SqL K H p ys∨SqT K H p ys)∧Q (.int ys.length) H
def rListOf (K:PySem.W.Frag):List V→Hp→VK→Prop:=fun xs H Q=>∃ p ys,xs=[.ref p]∧(SqL K H p ys∨SqT K H p ys)∧∀ l,H l=none→Q (.ref l) (upd H l (.lst ys))
theorem ZaU (K:PySem.W.Frag)(h:X.K=K:=by rfl):IxR X (rIxL K):=h ▸ ix_list
theorem ix_tupK (K:PySem.W.Frag)(h:X.K=K:=by rfl):IxR X (rIxT K):=h ▸ ix_tup
theorem ZdJ (K:PySem.W.Frag)(h:X.K=K:=by rfl):CallR X (.builtin "isinstance") (rIsi K):=h ▸ call_isi
theorem Za7 (K:PySem.W.Frag)(h:X.K=K:=by rfl):CallR X (.builtin "len") (rLen K):=by subst h;exact Zgl
theorem ZaS (K:PySem.W.Frag)(h:X.K=K:=by rfl):CallR X (.type "list") (rListOf K):=by subst h;exact Zgv
theorem Zjk {K:PySem.W.Frag}{xs:List V}{H:Hp}{Q:VK}:rLen K xs H Q=∃ p ys,xs=[.ref p]∧(SqL K H p ys∨SqT K H p ys)∧Q (.int ys.length) H:=rfl
theorem Zes {K:PySem.W.Frag}{xs:List V}{H:Hp}{Q:VK}:rListOf K xs H Q=∃ p ys,xs=[.ref p]∧(SqL K H p ys∨SqT K H p ys)∧∀ l,H l=none→Q (.ref l) (upd H l (.lst ys)):=rfl
end
section
variable {X:Cx}{tg l o e:Expr}{es:List Expr}{tl to:TE}{t:TA}{name:Str}{apos cpos:Pos}{T id:String}{r:V→List V→Hp→VK→Prop}
theorem ZaG (K:PySem.W.Frag)(hl:PE X l tl)(h:X.K=K:=by rfl):PI X tg l (iList K tl):=h ▸ pi_list hl
theorem ZhX (K:PySem.W.Frag)(pa:PlainAttrs T)(slot:Slot T name id)(hty:typeOf (.builtin id)=pure (.type "method_descriptor"))(hm:MtR X id r)(ho:PE X o to)(ha:PA X (e::es) t)(hK:X.K=K:=by rfl)
   (hbase:attributeBase o name X.env (eval o X.env)=eval o X.env:=by rfl)
   (hfew:((backTo cpos (starEach (e::es) X.env)).all (fun x=>!x.1)&&(backToKw cpos (keywordEach [] X.env)).all (fun x=>x.1.isSome)
     && decide ((e::es).length+([]:List Keyword).length+(if ([]:List Keyword).isEmpty then 0 else 1)<30))=true:=by rfl)
   (hline:(apos.endLine==cpos.line)=true:=by rfl) (hs:starEach (e::es) X.env=(false,eval e X.env)::starEach es X.env:=by rfl) (hplain:(backTo cpos (starEach es X.env)).any (·.1)=false:=by rfl) :
   PE X (.Call (.Attribute o name apos) (e::es) [] cpos) (tBM K T r to t):=hK ▸ pe_bm pa slot hty hm ho ha hbase hfew hline hs hplain
theorem pe_bm0K (K:PySem.W.Frag)(pa:PlainAttrs T)(slot:Slot T name id)(hty:typeOf (.builtin id)=pure (.type "method_descriptor"))(hm:MtR X id r)(ho:PE X o to)(hK:X.K=K:=by rfl)
   (hbase:attributeBase o name X.env (eval o X.env)=eval o X.env:=by rfl) (hline:(apos.endLine==cpos.line)=true:=by rfl):PE X (.Call (.Attribute o name apos) [] [] cpos) (tBM0 K T r to):=hK ▸ pe_bm0 pa slot hty hm ho hbase hline
end
section
variable {X:Cx}{st:Stmt}{rest:List Stmt}{t u:TS}
def tCut (t u:TS):TS:=fun D σ H=>∃ Mid:St→Hp→Prop,t { D with nx:=Mid } σ H∧∀ σ' H',Mid σ' H'→u D σ' H'
theorem Zaw (h1:PS X st t)(h2:PSs X rest u):PSs X (st::rest) (tCut t u):=by
 intro pins s σ H D I h;obtain ⟨Mid,h,hm⟩:=h;refine wpAny_execs_cons (thn (h1 pins s σ H _ I h) fun f s1 q=>?_);cases f with
 | next =>
   obtain ⟨σ1,H1,I1,q1⟩:=q;exact h2 pins s1 σ1 H1 D I1 (hm σ1 H1 q1)
 | brk=>exact q
 | cont=>exact q
 | ret v=>exact q
end
theorem rep0:List.replicate 0 (none:Option V)=[]:=rfl
theorem rep1:List.replicate 1 (none:Option V)=[none]:=rfl
theorem rep2:List.replicate 2 (none:Option V)=[none,none]:=rfl
theorem rep3:List.replicate 3 (none:Option V)=[none,none,none]:=rfl
theorem rep4:List.replicate 4 (none:Option V)=[none,none,none,none]:=rfl
theorem rep5:List.replicate 5 (none:Option V)=[none,none,none,none,none]:=rfl
theorem rep6:List.replicate 6 (none:Option V)=[none,none,none,none,none,none]:=rfl
theorem rep7:List.replicate 7 (none:Option V)=[none,none,none,none,none,none,none]:=rfl
theorem rep8:List.replicate 8 (none:Option V)=[none,none,none,none,none,none,none,none]:=rfl
theorem rep9:List.replicate 9 (none:Option V)=[none,none,none,none,none,none,none,none,none]:=rfl
theorem rep10:List.replicate 10 (none:Option V)=[none,none,none,none,none,none,none,none,none,none]:=rfl
theorem rep11:List.replicate 11 (none:Option V)=[none,none,none,none,none,none,none,none,none,none,none]:=rfl
end L2
namespace L2
open PySem PySem.Spec PyProof.Rows
mutual
inductive RdD (K:PySem.W.Frag) (H:Hp):V→PyData→Prop
 | non:RdD K H .non .none
 | bl (b:Bool):RdD K H (.bl b) (.bool b)
 | int (i:Int):RdD K H (.int i) (.int i)
 | str (x:Str):RdD K H (.str x) (.str x)
 | lst {a:Addr} {xs:List V} {ds:List PyData} (h:SqL K H a xs) (r:RdDs K H xs ds):RdD K H (.ref a) (.list ds)
 | tup {a:Addr} {xs:List V} {ds:List PyData} (h:SqT K H a xs) (r:RdDs K H xs ds):RdD K H (.ref a) (.tuple ds)
inductive RdDs (K:PySem.W.Frag) (H:Hp):List V→List PyData→Prop
 | nil:RdDs K H [] []
 | cons {x:V} {d:PyData} {xs:List V} {ds:List PyData} (h:RdD K H x d) (r:RdDs K H xs ds):RdDs K H (x::xs) (d::ds)
end
section
variable {X:Cx}{pins:List (Addr × Obj)}{σ:St}{H:Hp}{s:Shared}
mutual
theorem Inv.rd (I:Inv X pins σ H s):∀ {x:V} {d:PyData},RdD X.K H x d→∀ {u:Value},RelV x u→∃ as,Reads s.heap u d as
 | _,_,.non,_,r=>by cases r;exact ⟨_,.none⟩
 | _,_,.bl b,_,r=>by cases r;exact ⟨_,.bool b⟩
 | _,_,.int i,_,r=>by obtain ⟨t,rfl⟩:=r;exact ⟨_,.int i t⟩
 | _,_,.str x,_,r=>by obtain ⟨t,rfl⟩:=r;exact ⟨_,.str x t⟩
 | _,_,.lst h rs,_,r=>by
   cases r;obtain ⟨its,rv,pl,_⟩:=I.list h;obtain ⟨as,q⟩:=Inv.rds I rs rv;obtain ⟨o,ho,hc,n,hd⟩:=pl.isList;exact ⟨_,.list ho hc hd (by simpa using q)⟩
 | _,_,.tup h rs,_,r=>by
   cases r;obtain ⟨its,rv,pl,_⟩:=I.tuple h;obtain ⟨as,q⟩:=Inv.rds I rs rv;obtain ⟨o,ho,hc,n,hd⟩:=pl;exact ⟨_,.tuple ho hc hd (by simpa using q)⟩
theorem Inv.rds (I:Inv X pins σ H s):∀ {xs:List V} {ds:List PyData},RdDs X.K H xs ds→∀ {us:List Value},Vals xs us→∃ as,ReadsAll s.heap us ds as
 | _,_,.nil,_,r=>by cases r;exact ⟨_,.nil⟩
 | _,_,.cons h t,_,r=>by
   cases r with
   | cons r1 r2 =>
     obtain ⟨as,q⟩:=Inv.rd I h r1;obtain ⟨bs,p⟩:=Inv.rds I t r2;exact ⟨_,.cons q p⟩
end
end
section
variable {X:Cx}
def rEqD (K:PySem.W.Frag):R2:=fun x y H Q=>∃ d e,RdD K H x d∧RdD K H y e∧SeqAt.shaped d=true∧SeqAt.shaped e=true∧SeqAt.noMix d e=true∧Q (.bl (PySem.Spec.same d e)) H
def rNeD (K:PySem.W.Frag):R2:=fun x y H Q=>∃ d e,RdD K H x d∧RdD K H y e∧SeqAt.shaped d=true∧SeqAt.shaped e=true∧SeqAt.noMix d e=true∧Q (.bl (!PySem.Spec.same d e)) H
theorem ZhY (K:PySem.W.Frag)(hu:X.A.units+64<cLine)(h:X.K=K:=by rfl):OpR X (compareOp .Eq) (rEqD K):=by subst h;intro pins s σ H x y v u Q I rx ry h;obtain ⟨d,e,h1,h2,s1,s2,nm,q⟩:=h;obtain ⟨as,r1⟩:=I.rd h1 rx;obtain ⟨bs,r2⟩:=I.rd h2 ry;exact eq_dataH_same r1 r2 s1 s2 hu nm ⟨.bl _,H,I,rfl,q⟩
theorem op_neD (K:PySem.W.Frag)(hu:X.A.units+64<cLine)(h:X.K=K:=by rfl):OpR X (compareOp .NotEq) (rNeD K):=by subst h;intro pins s σ H x y v u Q I rx ry h;obtain ⟨d,e,h1,h2,s1,s2,nm,q⟩:=h;obtain ⟨as,r1⟩:=I.rd h1 rx;obtain ⟨bs,r2⟩:=I.rd h2 ry;exact ne_dataH_same r1 r2 s1 s2 hu nm ⟨.bl _,H,I,rfl,q⟩
theorem hu64 {A:Around}{k:Nat}(hr:Room k A):A.units+64<cLine:=Nat.lt_of_le_of_lt (by omega) hr.un
end
theorem ZbX {K:PySem.W.Frag}{H:Hp}:∀ ns:List Int,RdDs K H (ns.map V.int) (ns.map PyData.int)
 | []=>.nil
 | n::r=>.cons (.int n) (ZbX r)
section
variable {K:PySem.W.Frag}{H:Hp}{Q:VK}{a b:Addr}
theorem Zkv {ns ms:List Int}(h1:SqL K H a (ns.map V.int))(h2:SqL K H b (ms.map V.int))(q:Q (.bl (decide (ns=ms))) H):rEqD K (.ref a) (.ref b) H Q :=
 ⟨_,_,.lst h1 (ZbX ns),.lst h2 (ZbX ms),PySem.W.ke_shaped_ints ns,PySem.W.ke_shaped_ints ms,SeqAt.noMix_of_shape (.list .int) rfl _ _ (list_map_has fun _=>rfl) (list_map_has fun _=>rfl),by rw [PySem.W.ke_same];exact q⟩
theorem ZjR {ns ms:List Int}(h1:SqL K H a (ns.map V.int))(h2:SqL K H b (ms.map V.int))(q:Q (.bl (!decide (ns=ms))) H):rNeD K (.ref a) (.ref b) H Q :=
 ⟨_,_,.lst h1 (ZbX ns),.lst h2 (ZbX ms),PySem.W.ke_shaped_ints ns,PySem.W.ke_shaped_ints ms,SeqAt.noMix_of_shape (.list .int) rfl _ _ (list_map_has fun _=>rfl) (list_map_has fun _=>rfl),by rw [PySem.W.ke_same];exact q⟩
end
theorem ZdI (ps:List Nat):BM.pint ps=(ps.map fun (p:Nat)=>(p:Int)).map V.int:=by unfold BM.pint;rw [List.map_map];rfl
theorem ZdZ {ps qs:List Nat}:(ps.map fun (p:Nat)=>(p:Int))=(qs.map fun (p:Nat)=>(p:Int))↔ps=qs :=
 ⟨fun h=>List.map_inj_right (fun _ _ e=>Int.ofNat.inj e) |>.mp h,fun h=>by rw [h]⟩
section
variable {K:PySem.W.Frag}{H:Hp}{Q:VK}{a b:Addr}
theorem Zkz {ps qs:List Nat}(h1:SqL K H a (BM.pint ps))(h2:SqL K H b (BM.pint qs))(q:Q (.bl (decide (ps=qs))) H):rEqD K (.ref a) (.ref b) H Q:=by rw [ZdI] at h1 h2;refine Zkv h1 h2 ?_;rw [decide_eq_decide.mpr ZdZ];exact q
theorem Zkl {ps qs:List Nat}(h1:SqL K H a (BM.pint ps))(h2:SqL K H b (BM.pint qs))(q:Q (.bl (!decide (ps=qs))) H):rNeD K (.ref a) (.ref b) H Q:=by rw [ZdI] at h1 h2;refine ZjR h1 h2 ?_;rw [decide_eq_decide.mpr ZdZ];exact q
end
section
variable {X:Cx}
end
theorem ZfG {σ:St}{H:Hp}{Q:VK}:tDNewK σ H Q=∀ p,H p=none→Q (.ref p) (upd H p (.dK [])):=rfl
section
variable {K:PySem.W.Frag}{H:Hp}{Q:VK}{p:Addr}{xs:List V}
end
end L2
namespace BM
open PySem L2 PyProof.Rows
theorem Zh3 {p:Nat}{r:List Nat}(h:Up (p+1) r):Builtin.bitAnd ((wd (p::r):Nat):Int) (-((wd (p::r):Nat):Int))=((2^p:Nat):Int):=by
 have hw:0<wd (p::r):=Zf8;have e:Builtin.bitAnd ((wd (p::r):Nat):Int) (-((wd (p::r):Nat):Int))=((wd (p::r):Nat):Int)-((((wd (p::r):Nat):Int).toNat &&& (Builtin.bitNot (-((wd (p::r):Nat):Int))).toNat:Nat):Int):=by unfold Builtin.bitAnd;rw [decide_eq_true (Int.natCast_nonneg _),decide_eq_false (by omega)]
 have e2:(Builtin.bitNot (-((wd (p::r):Nat):Int))).toNat=wd (p::r)-1:=by unfold Builtin.bitNot;omega
 rw [e,e2,Int.toNat_natCast,Zgt h];have:wd (p::r)=2^p+wd r:=rfl;rw [this,Int.natCast_add];omega
theorem ZfY {ps:List Nat}{p:Nat}(h:Up 0 (ps++[p])):Builtin.Int.intBits ((wd (ps++[p]):Nat):Int)=p+1:=by
 have h0:0<wd (ps++[p]):=by
   rw [Zbo];have:0<2^p:=Nat.pow_pos (by decide);show 0<wd ps+(2^p+0)
   omega
 unfold Builtin.Int.intBits;rw [if_neg (by rw [beq_iff_eq];omega),Int.natAbs_natCast,log2_wd h]
end BM
namespace L2
open PySem PySem.Spec PyProof.Rows
section
variable {X:Cx}{tg:Expr}
end
section
variable {X:Cx}
theorem tyV_str {K:PySem.W.Frag}{z:Str}{H:Hp}:tyV K "str" (.str z) H:=rfl
end
theorem ZdL {K:PySem.W.Frag}{h:Heap}{mg:Str→Option Value}{x:Str}{n:Int}{t:Tok}(X:K.In h)(G:h.Ns mainGlobals mg)(a:PySem.W.nsIn K mainGlobals x=some (some (.int n t))):∃ t,mg x=some (.int n t):=⟨t,PySem.W.mg_of X G a⟩
end L2
namespace L2
open PySem PySem.Spec PyProof.Rows
def MethAt (P:Program)(w:World)(K:PySem.W.Frag)(mg:Str→Option Value)(base:Heap)(C:Addr)(m:Str)(ps:List Str)(k:Nat)(sp:Sp):Prop :=
 Cls K C∧∃ f fd,Meth K C m f∧FnOk P w K mg base CX0 k f fd ps sp∧Binds K fd ps []
def MDefAt (K:PySem.W.Frag)(C:Addr)(m qual:Str)(st:Stmt)(ps:List Str):Prop:=∃ f fd,Fun K m qual st f fd∧Meth K C m f∧Binds K fd ps []
def MakeAt (P:Program)(w:World)(K:PySem.W.Frag)(mg:Str→Option Value)(base:Heap)(x:Str)(C:Addr)(ps:List Str)(k:Nat)(sp:Sp):Prop :=
 mg x=some (.ref C)∧∃ f fd,Mk K C f∧FnOk P w K mg base CX0 k f fd ps sp∧Binds K fd ps []
def MakerAt (K:PySem.W.Frag)(C:Addr)(qual:Str)(st:Stmt)(ps:List Str):Prop:=∃ f fd,Fun K "__init__" qual st f fd∧Mk K C f∧Binds K fd ps []
section
variable {P:Program}{w:World}{K:PySem.W.Frag}{mg:Str→Option Value}{base:Heap}
theorem MethAt.of {C:Addr}{m qual:Str}{st:Stmt}{N ps:List Str}{k:Nat}{sp:Sp}(c:Cls K C)(d:MDefAt K C m qual st ps)(S:FnScope N ps (defScope st))(len:∀ vs H Q E,sp vs H Q E→vs.length=ps.length)
   (hbody:∀ (f:Addr) (cdv:Value) (A:Around) (outer:List Env) (s:Shared) (H:Hp) (vs:List V) (Q:VK) (E:XK),Room k (A.deeper (envOfC qual (defScope st) s.heap.objs.size f cdv))→sp vs H Q E →
     ∃ t,PSs (cxOf CX0 P w K mg base N qual (defScope st) f cdv A outer s H E).nox (defBody st) t∧t { nx:=fun _ H'=>Q .non H',rt:=Q } (start N vs) H):MethAt P w K mg base C m ps (k+1) sp:=by
 obtain ⟨f,fd,F,m,b⟩:=d;exact ⟨c,f,fd,m,F.ok S len (hbody f),b⟩
theorem MakeAt.of {x:Str}{C:Addr}{qual:Str}{st:Stmt}{N ps:List Str}{k:Nat}{sp:Sp}(hx:mg x=some (.ref C))(d:MakerAt K C qual st ps)(S:FnScope N ps (defScope st))(len:∀ vs H Q E,sp vs H Q E→vs.length=ps.length)
   (hbody:∀ (f:Addr) (cdv:Value) (A:Around) (outer:List Env) (s:Shared) (H:Hp) (vs:List V) (Q:VK) (E:XK),Room k (A.deeper (envOfC qual (defScope st) s.heap.objs.size f cdv))→sp vs H Q E →
     ∃ t,PSs (cxOf CX0 P w K mg base N qual (defScope st) f cdv A outer s H E).nox (defBody st) t∧t { nx:=fun _ H'=>Q .non H',rt:=Q } (start N vs) H):MakeAt P w K mg base x C ps (k+1) sp:=by
 obtain ⟨f,fd,F,m,b⟩:=d;exact ⟨hx,f,fd,m,F.ok S len (hbody f),b⟩
theorem MethAt.mono {C:Addr}{m:Str}{ps:List Str}{j k:Nat}{sp:Sp}(h:MethAt P w K mg base C m ps j sp)(hjk:j≤k):MethAt P w K mg base C m ps k sp:=by obtain ⟨c,f,fd,me,F,b⟩:=h;exact ⟨c,f,fd,me,F.mono hjk,b⟩
theorem Zax {C:Addr}{m qual:Str}{st:Stmt}{ps:List Str}{f:Addr}{oc:Value}{od an:Option Addr}{osl:Array (Option Value)}{kV doc pm cdv ct:Value}(a:PySem.W.findIn K (.ref C) m=some (some (.ref f)))
   (l:K.lookup f=some ⟨oc,od,.func (PySem.W.fnOf m qual (defArgs st) (defBody st) (defScope st) .none kV doc pm an cdv ct),osl⟩) (c:PySem.W.codeIn K cdv qual=true) (k:PySem.W.keepIn K (.ref f)=true) (fn:PySem.W.isFn K (.ref f)=true)
   (hb:∀ (kV doc pm:Value) (an:Option Addr) (cdv ct:Value) (us:List Value),us.length=ps.length→bindArgs (PySem.W.fnOf m qual (defArgs st) (defBody st) (defScope st) .none kV doc pm an cdv ct) ⟨us,[]⟩=pure (ps.zip us)):MDefAt K C m qual st ps :=
 ⟨f,_,ZcU l c k,⟨a,fn,k⟩,(ZcU l c k).binds hb⟩
theorem Zdi {C:Addr}{qual:Str}{st:Stmt}{ps:List Str}{f:Addr}{oc:Value}{od an:Option Addr}{osl:Array (Option Value)}{kV doc pm cdv ct:Value}(a:PySem.W.findIn K (.ref C) "__init__"=some (some (.ref f)))
   (l:K.lookup f=some ⟨oc,od,.func (PySem.W.fnOf "__init__" qual (defArgs st) (defBody st) (defScope st) .none kV doc pm an cdv ct),osl⟩) (c:PySem.W.codeIn K cdv qual=true) (k:PySem.W.keepIn K (.ref f)=true) (fn:PySem.W.isFn K (.ref f)=true)
   (mk:PySem.W.makesIn K C=true) (kC:PySem.W.keepIn K (.ref C)=true)
   (hb:∀ (kV doc pm:Value) (an:Option Addr) (cdv ct:Value) (us:List Value),us.length=ps.length→bindArgs (PySem.W.fnOf "__init__" qual (defArgs st) (defBody st) (defScope st) .none kV doc pm an cdv ct) ⟨us,[]⟩=pure (ps.zip us)):MakerAt K C qual st ps :=
 ⟨f,_,ZcU l c k,⟨mk,a,fn,kC⟩,(ZcU l c k).binds hb⟩
theorem Zf5 {h:Heap}{x:Str}{C:Addr}{R:Addr→Prop}(X:K.In h)(G:h.Ns mainGlobals mg)(a:PySem.W.nsIn K mainGlobals x=some (some (.ref C)))(r:R C):∃ C,mg x=some (.ref C)∧R C:=⟨C,PySem.W.mg_of X G a,r⟩
end
def tMeD (P:Program)(w:World)(K:PySem.W.Frag)(mg:Str→Option Value)(base:Heap)(k0:Nat)(m:Str)(ta:TE)(t:TA):TE:=fun σ H Q=>ta σ H fun x H1=>∃ a C dx fs ps sp,x=.ref a∧H1 a=some (.ins C dx fs)∧fs.lookup m=none ∧
 MethAt P w K mg base C m ps k0 sp∧t σ H1 fun vs H2=>sp (x::vs) H2 Q E0
section
variable {X:Cx}{k0:Nat}{x m:Str}{p pos apos:Pos}{e o:Expr}{es:List Expr}{ta:TE}{t:TA}{P:Program}{w:World}{K:PySem.W.Frag}{mg:Str→Option Value}{base:Heap}
theorem ZaP (k0:Nat){pl:Sem Bool}(hr:Room k0 X.A)(he:PE X o ta)(ha:PA X (e::es) t)(hP:X.prog=P:=by rfl)(hw:X.w=w:=by rfl)(hK:X.K=K:=by rfl)(hmg:X.mg=mg:=by rfl)(hbs:X.base=base:=by rfl)
   (hst:starEach (e::es) X.env=(false,eval e X.env)::starEach es X.env:=by rfl) (hpl:(backTo pos (starEach es X.env)).any (·.1)=false:=by rfl)
   (ht:eval (.Call (.Attribute o m apos) (e::es) [] pos) X.env=(do
     let ov ← eval o X.env
     standAt apos.atName
     let (f,first) ← holding [ov] (getMethod ov m pl)
     callWith pos f first (backTo pos (starEach (e::es) X.env)) (backToKw pos (keywordEach [] X.env))):=by rfl) :
   PE X (.Call (.Attribute o m apos) (e::es) [] pos) (tMeD P w K mg base k0 m ta t):=by
 subst hP hw hK hmg hbs;intro pins s σ H Q I h;refine PySem.W.methodCall_KW (pl:=pl) (thn (he pins s σ H _ I h) fun u s1 hz=>?_) ht;obtain ⟨x,H1,I1,rx,a,C,dx,fs,ps,sp,ex,ea,l,⟨c,f,fd,me,F,b⟩,q⟩:=hz;subst ex;obtain rfl:u=Value.ref a:=rx;refine ZeL I1 ea c me l ?_;refine PySem.W.callWith_K (first:=[.ref a]) (h₀:=X.base) I.ok.mod.kin me.kp (thn (ha pos pins s1 σ H1 _ I1 q) fun us s2 ⟨vs,H2,I2,r,q2⟩=>⟨I2.kIn,?_⟩) hst hpl;exact ZfR (us:=.ref a::us) (vs:=.ref a::vs) (dvs:=[]) F hr b .nil pass0 I2 (.cons rfl r) (by rw [List.append_nil];exact q2)
theorem ZaC (k0:Nat){pl:Sem Bool}(hr:Room k0 X.A)(he:PE X o ta)(hP:X.prog=P:=by rfl)(hw:X.w=w:=by rfl)(hK:X.K=K:=by rfl)(hmg:X.mg=mg:=by rfl)(hbs:X.base=base:=by rfl)
   (ht:eval (.Call (.Attribute o m apos) [] [] pos) X.env=(do
     let ov ← eval o X.env
     standAt apos.atName
     let (f,first) ← holding [ov] (getMethod ov m pl)
     callWith pos f first (backTo pos (starEach [] X.env)) (backToKw pos (keywordEach [] X.env))):=by rfl) :
   PE X (.Call (.Attribute o m apos) [] [] pos) (tMeD P w K mg base k0 m ta tNil):=by
 subst hP hw hK hmg hbs;intro pins s σ H Q I h;refine PySem.W.methodCall_KW (pl:=pl) (thn (he pins s σ H _ I h) fun u s1 hz=>?_) ht;obtain ⟨x,H1,I1,rx,a,C,dx,fs,ps,sp,ex,ea,l,⟨c,f,fd,me,F,b⟩,q⟩:=hz;subst ex;obtain rfl:u=Value.ref a:=rx;refine ZeL I1 ea c me l ?_;exact PySem.W.callWith_K0 (first:=[.ref a]) I1.kIn me.kp (ZfR (us:=[.ref a]) (vs:=[.ref a]) (dvs:=[]) F hr b .nil pass0 I1 (.cons rfl .nil) q)
theorem Ze1 {C:Addr}{ps:List Str}{k:Nat}{sp:Sp}(F:MakeAt X.prog X.w X.K X.mg X.base x C ps k sp)(hr:Room (k+1) X.A)(hg:Gl X x)(ha:PA X (e::es) t)
   (hdb:(x==("__debug__":Str))=false:=by decide) (he:starEach (e::es) X.env=(false,eval e X.env)::starEach es X.env:=by rfl) (hpl:(backTo pos (starEach es X.env)).any (·.1)=false:=by rfl) :
   PE X (.Call (.Name x p) (e::es) [] pos) (tMake C sp [] E0 t):=by
 obtain ⟨hm,f,fd,M,F,b⟩:=F;exact pe_make M F hr hg hm b .nil pass0 ha hdb he hpl
theorem Zbk (K:PySem.W.Frag){value:Expr}{f:Str}{tv:TE}{pos':Pos}(ha:PE X o ta)(hv:PE X value tv)(hs:swapsWith value (some (.Attribute o f pos')) pos.line X.env=pure false:=by rfl)(h:X.K=K:=by rfl):PS X (.Assign [.Attribute o f pos'] value pos) (sFld K ta tv f):=h ▸ ps_fld ha hv hs
theorem Zau (K:PySem.W.Frag){f:Str}(he:PE X e ta)(h:X.K=K:=by rfl)(hb:attributeBase e f X.env (eval e X.env)=eval e X.env:=by rfl):PE X (.Attribute e f pos) (tFld K ta f):=h ▸ pe_fld he hb
end
section
variable {P:Program}{w:World}{K:PySem.W.Frag}{mg:Str→Option Value}{base:Heap}{k0:Nat}{m f:Str}{ta tv:TE}{t:TA}{σ:St}{H:Hp}{Q:VK}{C:Addr}{sp:Sp}{dvs:List V}{E:XK}{D:Ends}
theorem ZiO:tMeD P w K mg base k0 m ta t σ H Q=ta σ H fun x H1=>∃ a C dx fs ps sp,x=.ref a∧H1 a=some (.ins C dx fs)∧fs.lookup m=none∧MethAt P w K mg base C m ps k0 sp∧t σ H1 fun vs H2=>sp (x::vs) H2 Q E0:=rfl
theorem Zhf:tMake C sp dvs E t σ H Q=t σ H fun vs H1=>∀ x dx,H1 x=none→H1 dx=none→dx≠x→sp (.ref x::(vs++dvs)) (upd (upd H1 dx (.own x)) x (.ins C dx [])) (fun v H2=>v=.non∧Q (.ref x) H2) E:=rfl
theorem Zem:tFld K ta f σ H Q=ta σ H fun x H1=>∃ a C dx fs v,x=.ref a∧H1 a=some (.ins C dx fs)∧Cls K C∧NoAttr K C f∧fs.lookup f=some v∧Q v H1:=rfl
theorem Zef:sFld K ta tv f D σ H=tv σ H fun y H1=>ta σ H1 fun x H2=>∃ a C dx fs,x=.ref a∧H2 a=some (.ins C dx fs)∧Cls K C∧NoAttr K C f∧fs.length<1000∧D.nx σ (upd H2 a (.ins C dx (putF f y fs))):=rfl
theorem ZfP {n:Nat}{t:TGs}{v:V}{R:St→Hp→Prop}:gTup K n t v σ H R=∃ a xs,v=.ref a∧SqT K H a xs∧xs.length=n∧t xs σ H R:=rfl
theorem Ze2 {t:TG}{u:TGs}{vs:List V}{R:St→Hp→Prop}:gCons t u vs σ H R=∃ v r,vs=v::r∧t v σ H fun σ' H'=>u r σ' H' R:=rfl
theorem Zgf {vs:List V}{R:St→Hp→Prop}:gNil vs σ H R=(vs=[]∧R σ H):=rfl
theorem ZfV {r:V→Option Int→Option Int→Hp→VK→Prop}{te:TE}{tl th:TO}:tSl r te tl th σ H Q=te σ H fun x H1=>tl σ H1 fun l H2=>th σ H2 fun u H3=>r x l u H3 Q:=rfl
theorem Zb7 {R:Option Int→Hp→Prop}:tNoPart σ H R=R none H:=rfl
theorem Zde {R:Option Int→Hp→Prop}:tPart ta σ H R=ta σ H fun x H1=>∃ i,x=.int i∧R (some i) H1:=rfl
theorem Zei {x:V}{lo hi:Option Int}:rSlL K x lo hi H Q=∃ a xs,x=.ref a∧SqL K H a xs∧∀ p,H p=none→Q (.ref p) (upd H p (.lst (cutV xs lo hi))):=rfl
theorem Zbf {X:Cx}(K:PySem.W.Frag)(h:X.K=K:=by rfl):SlR X (rSlL K):=h ▸ sl_list
theorem Zee {X:Cx}(K:PySem.W.Frag){pos:Pos}{es:List Expr}{k:Nat}{t:TGs}{n:Nat}(hc:X.calm=true)(h:PGs X es t)(hK:X.K=K:=by rfl)
   (hn:(assignEach es X.env).length=n:=by rfl) (hst:(assignEach es X.env).findIdx? (·.1)=none:=by rfl):PG X (.Tuple es k pos) (gTup K n t):=hK ▸ pg_tup hc h hn hst
end
def CompYes (n i:Nat)(D:Addr)(I:Nat→List V→Hp→Prop)(y:V)(H6:Hp):Prop:=∃ xs,H6 D=some (.lst xs)∧xs.length<sizeLine∧∃ m',m'<n-i∧m'=n-(i+1)∧∃ ys,I (i+1) ys (upd H6 D (.lst (xs++[y])))
def CompNo (n i:Nat)(I:Nat→List V→Hp→Prop)(H5:Hp):Prop:=∃ m',m'<n-i∧m'=n-(i+1)∧∃ ys,I (i+1) ys H5
theorem compYes {n i:Nat}{D:Addr}{I:Nat→List V→Hp→Prop}{y:V}{H6:Hp}{ys:List V}(hn:n≤1000000)(hi:i<n)(hl:ys.length≤i)(h:H6 D=some (.lst ys))(q:I (i+1) (ys++[y]) (upd H6 D (.lst (ys++[y])))):CompYes n i D I y H6 :=
 ⟨ys,h,by rw [sizeLine_eq];omega,n-(i+1),by omega,rfl,_,q⟩
theorem compG {J:It}{m n:Nat}{caps:List Nat}{g:TG}{tt:TT}{te:TE}{σ:St}{H1:Hp}{Q:VK}(I:Addr→Nat→List V→Hp→Prop)
   (h0:∀ D,H1 D=none→I D 0 [] (upd H1 D (.lst []))) (hl:∀ D i ys H2,I D i ys H2→i≤n)
   (hstop:∀ D ys H2,H1 D=none→I D n ys H2→J.stop n H2) (hgo:∀ D i ys H2,H1 D=none→i<n→I D i ys H2→J.go i H2)
   (turn:∀ D i ys H2 x H3,H1 D=none→i<n→I D i ys H2→J.yld i H2 x H3→g x (capSt m caps σ) H3 fun σ4 H4=>tt σ4 H4 fun b H5=>if b=true then te σ4 H5 fun y H6=>CompYes n i D (I D) y H6 else CompNo n i (I D) H5)
   (hq:∀ D ys H2,H1 D=none→I D n ys H2→Q (.ref D) H2):CompJ J m caps g tt te σ H1 Q:=by
 intro D hD;refine ⟨fun i k H2=>k=n-i∧∃ ys,I D i ys H2,⟨n,rfl,[],h0 D hD⟩,?_⟩;rintro i k H2 ⟨rfl,ys,hI⟩;have h1:=hl D i ys H2 hI;by_cases hlt:i<n
 · exact .inr ⟨hgo D i ys H2 hD hlt hI,fun x H3 y=>turn D i ys H2 x H3 hD hlt hI y⟩
 · have e:i=n:=by omega
   subst e;exact .inl ⟨hstop D ys H2 hD hI,hq D ys H2 hD hI⟩
theorem Same.put {H H':Hp}{a:Addr}{o:HO}(s:Same H H')(h:H a=none):Same H (upd H' a o):=fun b u e=>by rw [Zag (Zar e h)];exact s b u e
theorem Same.new {H:Hp}{a:Addr}{o:HO}(h:H a=none):Same H (upd H a o):=(Same.refl H).put h
end L2
namespace L2
open PySem PySem.Spec PyProof.Rows
section
variable {prog:Program}{w:World}{A:Around}{E:Value→Shared→Prop}{s:Shared}
end
section
variable {X:Cx}{e:Expr}{te:TE}{p p' pos pos':Pos}
end
end L2
namespace L2
open PySem PySem.Spec PyProof.Rows
section
variable {prog:Program}{w:World}{A:Around}{E:Value→Shared→Prop}
theorem draw_lst {it l:Addr}{xs:Array Value}(ne:l≠it):∀ (n i:Nat) (s:Shared) (Q:List Value→Shared→Prop),s.heap.IsListIter it l i→s.heap.IsList l xs→i+n≤xs.size →
   (∀ h',h'.IsListIter it l (i+n)→Heap.SameBut it s.heap h'→Q ((xs.toList.drop i).take n) { s with heap:=h' })→wpAny (model prog w) A (draw (.ref it) n) Q E s:=by
 intro n;induction n with
 | zero =>
   intro i s Q h1 h2 h3 q;refine wpAny_pure ?_;simpa using q s.heap h1 (Heap.SameBut.refl ..)
 | succ n ih =>
   intro i s Q h1 h2 h3 q;have lt:i<xs.size:=by omega
   show wpAny _ _ (pyNext (.ref it) >>= _) Q E s;refine wpAny_bind (wpAny_pyNext_list_item h1 h2 (x:=xs[i]) (by simp [lt]) fun g1 k1 k2=>?_);refine wpAny_bind (wpAny_holding (ih (i+1) _ _ k1 (h2.extBut k2.extBut ne) (by omega) fun g2 k3 k4=>wpAny_pure ?_));have e:xs.toList.drop i=xs[i]::xs.toList.drop (i+1):=by simp [List.drop_eq_getElem_cons,lt]
   have z:=q g2 (by rw [show i+(n+1)=i+1+n by omega];exact k3) (k2.trans k4);rw [e,List.take_succ_cons] at z;exact z
theorem Zh1 {s:Shared}{l:Addr}{xs:Array Value}{ts:List (Bool × (Value→Sem Unit))}{Q:Unit→Shared→Prop}(hh:A.handled=none)(hl:s.heap.IsList l xs)(hn:ts.length=xs.size)(hst:ts.findIdx? (·.1)=none)
   (q:∀ h',Heap.ExtBut s.heap.objs.size s.heap h'→wpAny (model prog w) A (assignInOrder (ts.map (·.2)) xs.toList) Q E { s with heap:=h' }):wpAny (model prog w) A (unpack (.ref l) ts) Q E s:=by
 have ne:l≠s.heap.objs.size:=by obtain ⟨o,ho,_⟩:=hl;exact Nat.ne_of_lt (Heap.lt_size ho)
 unfold unpack;rw [hn,hst];refine wpAny_bind (wpAny_holding ?_);unfold unpackItems notIterableAtAll;refine wpAny_bind (wpAny_bind (wpAny_specialOf hl.typeIs slot_list_iter.lookup (wpAny_pure ?_)));simp only [Bool.false_eq_true,if_false];refine wpAny_bind (wpAny_holding (wpAny_pyIter_list hl ?_));refine wpAny_bind (wpAny_holding (draw_lst ne xs.size 0 _ _ ⟨_,Heap.get?_push_size _ rfl,rfl,rfl⟩ (hl.push _) (by omega) fun g1 k1 k2=>?_));have all:List.take xs.size (List.drop 0 xs.toList)=xs.toList:=by rw [List.drop_zero];exact List.take_of_length_le (by simp)
 rw [all,if_neg (by simp)];refine wpAny_bind (wpAny_holding (wpAny_pyNext_list_end hh k1 ((hl.push _).extBut k2.extBut ne) (by simp) fun g2 k3=>?_));simp only [Option.isSome_none,Bool.false_eq_true,if_false];exact wpAny_pure (q g2 fun b o hb e=>k3 b o hb (k2.extBut b o hb (Heap.get?_push_of_some _ e)))
end
def gLst (K:PySem.W.Frag)(n:Nat)(t:TGs):TG:=fun v σ H R=>∃ a xs,v=.ref a∧SqL K H a xs∧xs.length=n∧t xs σ H R
theorem pg_lstK {X:Cx}(K:PySem.W.Frag){pos:Pos}{es:List Expr}{k:Nat}{t:TGs}{n:Nat}(hc:X.calm=true)(h:PGs X es t)(hK:X.K=K:=by rfl)
   (hn:(assignEach es X.env).length=n:=by rfl) (hst:(assignEach es X.env).findIdx? (·.1)=none:=by rfl):PG X (.Tuple es k pos) (gLst K n t):=by
 subst hK;intro pins s σ H v u Q I r hw;obtain ⟨a,xs,rfl,hq,hl,hw⟩:=hw;cases r;obtain ⟨its,rv,pl,_⟩:=I.list hq;rw [assign_Tuple];refine wpAny_bind (wpAny_standAt (Zh1 (I.ok.hd hc) pl.isList (by simp [hn,← hl,rv.length]) hst fun h' hx=>?_));have I1:Inv X pins σ H { s with heap:=h' }:=I.kept (t':=s.toks) fun b o e=>hx b o (Nat.ne_of_lt (Heap.lt_size e)) e
 exact h pins _ σ H xs _ Q I1 (by simpa using rv) hw
theorem ZiZ {K:PySem.W.Frag}{n:Nat}{t:TGs}{v:V}{σ:St}{H:Hp}{R:St→Hp→Prop}:gLst K n t v σ H R=∃ a xs,v=.ref a∧SqL K H a xs∧xs.length=n∧t xs σ H R:=rfl
structure TyIns (K:PySem.W.Frag)(C:Addr):Prop where
 a:PySem.W.findIn K (.ref C) "__class__"=some (some (.builtin "object.__class__"))
 b:PySem.W.specialIn K (.builtin "object.__class__") "__get__"=some (some (.builtin "getset_descriptor.__get__"))
 c:PySem.W.takesIn K (.builtin "object.__class__")=some true
 d:PySem.W.mroIn K C (.type "object")=some true
theorem all1 {α:Type}{p:List α→Prop}(h:∀ a,p [a]):∀ us:List α,us.length=1→p us
 | [a],_=>h a
theorem all2 {α:Type}{p:List α→Prop}(h:∀ a b,p [a,b]):∀ us:List α,us.length=2→p us
 | [a,b],_=>h a b
theorem all3 {α:Type}{p:List α→Prop}(h:∀ a b c,p [a,b,c]):∀ us:List α,us.length=3→p us
 | [a,b,c],_=>h a b c
end L2
namespace BM
open PySem L2 PyProof.Rows
theorem and_side {m a b c d:Nat}(ha:a<2^m)(hc:c<2^m):(a+2^m*b) &&& (c+2^m*d)=(a &&& c)+2^m*(b &&& d):=by
 have hac:a &&& c<2^m:=Nat.lt_of_le_of_lt Nat.and_le_left ha;apply Nat.eq_of_testBit_eq
 intro i;rw [Nat.testBit_and];rw [Nat.add_comm a,Nat.add_comm c,Nat.add_comm (a &&& c)];rw [Nat.testBit_two_pow_mul_add _ ha,Nat.testBit_two_pow_mul_add _ hc,Nat.testBit_two_pow_mul_add _ hac];split
 · rw [Nat.testBit_and]
 · rw [Nat.testBit_and]
def msk (k:Nat):Nat→Nat
 | 0=>0
 | n+1=>(2^k-1)+2^(2*k)*msk k n
def lay2 (k:Nat):Nat→Nat→Nat
 | 0,_=>0
 | n+1,w=>(w%2^k+w/2^k%2^k)+2^(2*k)*lay2 k n (w/2^(2*k))
def fs (k:Nat):Nat→Nat→Nat
 | 0,_=>0
 | n+1,w=>w%2^k+fs k n (w/2^k)
theorem Zjd (k:Nat):∀ (n w:Nat),w &&& msk k (n+1)=w%2^k+2^(2*k)*(w/2^(2*k) &&& msk k n):=by
 intro n w;have h2:2^k≤2^(2*k):=Nat.pow_le_pow_right (by decide) (by omega);have hp:0<2^k:=Nat.pow_pos (by decide);have e:w=w%2^(2*k)+2^(2*k)*(w/2^(2*k)):=(Nat.mod_add_div _ _).symm
 conv=>lhs;rw [e]
 show _ &&& ((2^k-1)+2^(2*k)*msk k n)=_;rw [and_side (Nat.mod_lt _ (Nat.pow_pos (by decide))) (by omega),Nat.and_two_pow_sub_one_eq_mod];congr 1
 exact Nat.mod_mod_of_dvd _ (Nat.pow_dvd_pow 2 (by omega))
theorem swar (k:Nat):∀ (n w:Nat),(w &&& msk k n)+((w >>> k) &&& msk k n)=lay2 k n w
 | 0,w=>by show (w &&& 0)+((w >>> k) &&& 0)=0;rw [Nat.and_zero,Nat.and_zero]
 | n+1,w=>by
   rw [Zjd,Zjd,Nat.shiftRight_eq_div_pow,Nat.div_div_eq_div_mul,← Nat.pow_add,Nat.add_comm k (2*k),Nat.pow_add,← Nat.div_div_eq_div_mul,← Nat.shiftRight_eq_div_pow (w/2^(2*k)) k];show _=(w%2^k+w/2^k%2^k)+2^(2*k)*lay2 k n (w/2^(2*k));rw [← swar k n (w/2^(2*k)),Nat.mul_add];omega
theorem Zdp {k:Nat}(hk:0<k):∀ (n w:Nat),fs (2*k) n (lay2 k n w)=fs k (2*n) w
 | 0,_=>rfl
 | n+1,w=>by
   have hp:0<2^k:=Nat.pow_pos (by decide);have h2:2^k*2≤2^(2*k):=by rw [← Nat.pow_succ];exact Nat.pow_le_pow_right (by decide) (by omega)
   have a1:=Nat.mod_lt w hp;have a2:=Nat.mod_lt (w/2^k) hp;have hs:w%2^k+w/2^k%2^k<2^(2*k):=by omega
   show lay2 k (n+1) w%2^(2*k)+fs (2*k) n (lay2 k (n+1) w/2^(2*k))=w%2^k+(w/2^k%2^k+fs k (2*n) (w/2^k/2^k))
   have e:lay2 k (n+1) w=(w%2^k+w/2^k%2^k)+2^(2*k)*lay2 k n (w/2^(2*k)):=rfl;rw [e,Nat.add_mul_mod_self_left,Nat.mod_eq_of_lt hs,Nat.add_mul_div_left _ _ (Nat.pow_pos (by decide)),Nat.div_eq_of_lt hs,Nat.zero_add,Zdp hk n,Nat.div_div_eq_div_mul,← Nat.pow_add,← Nat.two_mul];omega
theorem fs_mod (k : Nat):∀ (n w:Nat),w<2^(k*n)→w%(2^k-1)=fs k n w%(2^k-1)
 | 0, w, h => by have:w=0:=by simpa using h
                 subst this;rfl
 | n + 1,w,h=>by
   have hp:0<2^k:=Nat.pow_pos (by decide);have hd:w/2^k<2^(k*n):=by rw [Nat.div_lt_iff_lt_mul hp,← Nat.pow_add];exact h
   have ih:=fs_mod k n (w/2^k) hd;show _=(w%2^k+fs k n (w/2^k))%(2^k-1);rw [Nat.add_mod,← ih,← Nat.add_mod];have e:w=w%2^k+w/2^k+(2^k-1)*(w/2^k):=by
     have:=Nat.mod_add_div w (2^k);have:2^k*(w/2^k)=w/2^k+(2^k-1)*(w/2^k):=by
       generalize w/2^k=q;have z:2^k=1+(2^k-1):=by omega
       conv=>lhs;rw [z]
       rw [Nat.add_mul,Nat.one_mul]
     omega
   conv=>lhs;rw [e]
   rw [Nat.add_mul_mod_self_left]
theorem Zjv {k:Nat}(hk:0<k):∀ (n w:Nat),lay2 k n w<2^(2*k*n)
 | 0,_=>by show 0<2^(2*k*0);exact Nat.pow_pos (by decide)
 | n+1,w=>by
   have hp:0<2^k:=Nat.pow_pos (by decide);have h2:2^k*2≤2^(2*k):=by rw [← Nat.pow_succ];exact Nat.pow_le_pow_right (by decide) (by omega)
   have a1:=Nat.mod_lt w hp;have a2:=Nat.mod_lt (w/2^k) hp;have ih:=Zjv hk n (w/2^(2*k));have e:lay2 k (n+1) w=(w%2^k+w/2^k%2^k)+2^(2*k)*lay2 k n (w/2^(2*k)):=rfl;rw [e,Nat.mul_succ,Nat.add_comm (2*k*n),Nat.pow_add];have:2^(2*k)*(lay2 k n (w/2^(2*k))+1)≤2^(2*k)*2^(2*k*n):=Nat.mul_le_mul_left _ ih;rw [Nat.mul_succ] at this;omega
theorem fs_one:∀ (n w:Nat),fs 1 n w=((List.range n).filter w.testBit).length
 | 0,_=>rfl
 | n + 1,w=>by
   show w%2^1+fs 1 n (w/2^1)=_;rw [fs_one n,List.range_succ_eq_map,List.filter_cons,List.filter_map];have hc:(List.range n).filter (w/2^1).testBit=(List.range n).filter (w.testBit ∘ Nat.succ):=List.filter_congr fun i _=>by
     show (w/2^1).testBit i=w.testBit (i+1);rw [Nat.testBit_succ,Nat.pow_one]
   rw [hc];have h0:w.testBit 0=decide (w%2=1):=Nat.testBit_zero w;rw [h0];rcases Nat.mod_two_eq_zero_or_one w with z | z
   · simp [z]
   · simp [z];omega
theorem fs_le:∀ (n w:Nat),fs 1 n w≤n
 | 0,_=>Nat.le_refl _
 | n+1,w=>by
   show w%2^1+fs 1 n (w/2^1)≤_;have:=fs_le n (w/2^1);have:=Nat.mod_lt w (y:=2^1) (by decide);omega
theorem fs_mod16 (w:Nat)(h:w<2^(2*8*16)):w%65535=fs 16 16 w%65535:=by
 have:=fs_mod 16 16 w h;have e:(2:Nat)^16-1=65535:=by decide
 rw [e] at this;exact this
theorem popc (w:Nat):lay2 8 16 (lay2 4 32 (lay2 2 64 (lay2 1 128 w)))%65535=((List.range 256).filter w.testBit).length:=by have h1:=Zdp (k:=1) (by decide) 128 w;have h2:=Zdp (k:=2) (by decide) 64 (lay2 1 128 w);have h3:=Zdp (k:=4) (by decide) 32 (lay2 2 64 (lay2 1 128 w));have h4:=Zdp (k:=8) (by decide) 16 (lay2 4 32 (lay2 2 64 (lay2 1 128 w)));have b:=Zjv (k:=8) (by decide) 16 (lay2 4 32 (lay2 2 64 (lay2 1 128 w)));have b1:=fs_le 256 w;generalize lay2 8 16 (lay2 4 32 (lay2 2 64 (lay2 1 128 w)))=z at h4 b ⊢;generalize lay2 4 32 (lay2 2 64 (lay2 1 128 w))=y at h3 h4;generalize lay2 2 64 (lay2 1 128 w)=x at h2 h3;generalize lay2 1 128 w=v at h1 h2;have e1:fs 16 16 z=fs 8 32 y:=h4;have e2:fs 8 32 y=fs 4 64 x:=h3;have e3:fs 4 64 x=fs 2 128 v:=h2;have e4:fs 2 128 v=fs 1 256 w:=h1;rw [fs_mod16 z b,e1,e2,e3,e4,← fs_one];exact Nat.mod_eq_of_lt (by omega)
theorem msk1:msk 1 128=0x5555555555555555555555555555555555555555555555555555555555555555:=by decide +kernel
theorem msk2:msk 2 64=0x3333333333333333333333333333333333333333333333333333333333333333:=by decide +kernel
theorem msk4:msk 4 32=0x0F0F0F0F0F0F0F0F0F0F0F0F0F0F0F0F0F0F0F0F0F0F0F0F0F0F0F0F0F0F0F0F:=by decide +kernel
theorem msk8:msk 8 16=0x00FF00FF00FF00FF00FF00FF00FF00FF00FF00FF00FF00FF00FF00FF00FF00FF:=by decide +kernel
theorem Zim {ps qs:List Nat}(hp:Up 0 ps)(hq:Up 0 qs):wd ps &&& wd qs=wd (ps.filter fun p=>decide (p∈qs)):=Zgb hp.filter fun i=>by
 rw [Nat.testBit_and,ZaX hp,ZaX hq,Bool.eq_iff_iff];simp [List.mem_filter]
theorem Zgy (f:Nat→Bool):∀ ps:List Nat,wd ps=wd (ps.filter f)+wd (ps.filter fun p=>!f p)
 | []=>rfl
 | p::r=>by
   have ih:=Zgy f r;rw [List.filter_cons,List.filter_cons];cases f p with
   | true=>simp only [if_true,Bool.not_true,Bool.false_eq_true,if_false];show 2^p+wd r=2^p+wd _+_;omega
   | false=>simp only [if_true,Bool.not_false,Bool.false_eq_true,if_false];show 2^p+wd r=_+(2^p+wd _);omega
theorem Zjg {ps qs:List Nat}(hp:Up 0 ps)(hq:Up 0 qs):wd ps-(wd ps &&& wd qs)=wd (ps.filter fun p=>!decide (p∈qs)):=by rw [Zim hp hq,Zgy (fun p=>decide (p∈qs)) ps];omega
theorem or_wd {ps qs:List Nat}{n:Nat}(hp:Up 0 ps)(hq:Up 0 qs)(h1:∀ p∈ps,p<n)(h2:∀ p∈qs,p<n):wd ps ||| wd qs=wd ((List.range n).filter fun p=>decide (p∈ps)||decide (p∈qs)):=Zgb (Zb1 _ _) fun i=>by
 rw [Nat.testBit_or,ZaX hp,ZaX hq,Bool.eq_iff_iff];simp [List.mem_filter];intro h;rcases h with h | h
 · exact h1 _ h
 · exact h2 _ h
theorem xor_wd {ps qs:List Nat}{n:Nat}(hp:Up 0 ps)(hq:Up 0 qs)(h1:∀ p∈ps,p<n)(h2:∀ p∈qs,p<n):(wd ps ||| wd qs)-(wd ps &&& wd qs)=wd ((List.range n).filter fun p=>decide (p∈ps) != decide (p∈qs)):=by
 rw [or_wd hp hq h1 h2,Zim hp hq,Zgy (fun p=>decide (p∈ps)&&decide (p∈qs)) ((List.range n).filter _),List.filter_filter,List.filter_filter];have a:(List.range n).filter (fun p=>(decide (p∈ps)&&decide (p∈qs))&&(decide (p∈ps)||decide (p∈qs)))=ps.filter fun p=>decide (p∈qs):=by
   refine Up.ext (Zb1 _ _) hp.filter fun i=>?_
   rw [List.mem_filter,List.mem_filter,List.mem_range];simp;constructor
   · intro h;exact ⟨h.2.1.1,h.2.1.2⟩
   · intro h;exact ⟨h1 _ h.1,h,.inl h.1⟩
 have b:(List.range n).filter (fun p=>!(decide (p∈ps)&&decide (p∈qs))&&(decide (p∈ps)||decide (p∈qs)))=(List.range n).filter fun p=>decide (p∈ps) != decide (p∈qs):=by
   refine List.filter_congr fun i _=>?_
   by_cases x:i∈ps<;>by_cases y:i∈qs<;>simp [x,y]
 rw [a,b];omega
def bgs (ps:List Nat):List Nat:=ps.filter fun p=>!decide (p∈ps.map (·+1))
theorem wd_bgs {ps:List Nat}(hp:Up 0 ps):wd ps-(wd ps &&& (wd ps*2))=wd (bgs ps):=by have e:wd ps*2=wd (ps.map (·+1)):=(ZgY 1 ps).symm;rw [e];exact Zjg hp ((hp.shift 1).mono (Nat.zero_le _))
theorem ZjD {ps:List Nat}{p:Nat}:∃ rs a,runsOf (ps++[p])=rs++[(a,p)]:=by
 rw [ZbN];rcases List.eq_nil_or_concat (runsOf ps) with e | ⟨rs,⟨a,b⟩,e⟩
 · rw [e];exact ⟨[],p,rfl⟩
 · rw [List.concat_eq_append] at e
   rw [e];by_cases w:b+1=p
   · exact ⟨rs,a,ZbL w⟩
   · exact ⟨rs++[(a,b)],p,Zbv w⟩
theorem runs_bgs {ps:List Nat} (hp:Up 0 ps):(runsOf ps).length=(bgs ps).length:=by
 induction ps using snocInd with
 | nil=>rfl
 | snoc ps p ih =>
   have up:Up 0 ps:=hp.left;have lt:∀ q∈ps,q<p:=hp.last;have ih:=ih up
   have hb : bgs (ps++[p])=bgs ps++(if p∈ps.map (·+1) then [] else [p]):=by
     unfold bgs;rw [List.filter_append,List.map_append];congr 1
     · apply List.filter_congr
       intro q hq;have:q≠p+1:=by have:=lt q hq;omega
       have e:(q∈List.map (·+1) ps++List.map (·+1) [p])↔q∈List.map (·+1) ps:=by
         rw [List.mem_append];constructor
         · intro h
           rcases h with h | h
           · exact h
           · simp at h;omega
         · exact .inl
       simp only [e]
     · have e:(p∈List.map (·+1) ps++List.map (·+1) [p])↔p∈List.map (·+1) ps:=by
         rw [List.mem_append];constructor
         · intro h
           rcases h with h | h
           · exact h
           · simp at h
         · exact .inl
       rw [List.filter_cons];simp only [e];by_cases w:p∈List.map (·+1) ps
       · rw [if_pos w];simp [w]
       · rw [if_neg w];simp [w]
   rw [hb,List.length_append,← ih,ZbN];rcases List.eq_nil_or_concat ps with e | ⟨qs,q,e⟩
   · subst e
     simp [runsOf,addP]
   · rw [List.concat_eq_append] at e
     subst e;obtain ⟨rs,a,er⟩:=ZjD (ps:=qs) (p:=q);rw [er];by_cases w:q+1=p
     · rw [ZbL w,if_pos (by simp [w])]
       simp
     · rw [Zbv w,if_neg ?_]
       · simp
       · intro z
         rw [List.map_append,List.mem_append] at z;rcases z with z | z
         · obtain ⟨x,hx,e⟩:=List.mem_map.mp z
           have l1:x<q:=Up.last (ys:=[p]) (by rw [List.append_assoc] at hp;exact hp) x hx;have l2:=lt q (by simp);omega
         · simp at z
           omega
theorem ZiN {ps qs:List Nat}(hp:Up 0 ps)(hq:Up 0 qs):Builtin.bitAnd ((wd ps:Nat):Int) ((wd qs:Nat):Int)=((wd (ps.filter fun p=>decide (p∈qs)):Nat):Int):=by rw [bitAnd_pp (Int.natCast_nonneg _) (Int.natCast_nonneg _),Int.toNat_natCast,Int.toNat_natCast,Zim hp hq]
theorem andNot (x y:Nat):Builtin.bitAnd (x:Int) (Builtin.bitNot (y:Int))=((x-(x &&& y):Nat):Int):=by
 have e:Builtin.bitAnd (x:Int) (Builtin.bitNot (y:Int))=(x:Int)-(((x:Int).toNat &&& (Builtin.bitNot (Builtin.bitNot (y:Int))).toNat:Nat):Int):=by unfold Builtin.bitAnd;rw [decide_eq_true (Int.natCast_nonneg _),decide_eq_false (by unfold Builtin.bitNot;omega)]
 have e2:Builtin.bitNot (Builtin.bitNot (y:Int))=y:=by unfold Builtin.bitNot;omega
 have:x &&& y≤x:=Nat.and_le_left;rw [e,e2,Int.toNat_natCast,Int.toNat_natCast];omega
theorem less_wdI {ps qs:List Nat}(hp:Up 0 ps)(hq:Up 0 qs):Builtin.bitAnd ((wd ps:Nat):Int) (Builtin.bitNot ((wd qs:Nat):Int))=((wd (ps.filter fun p=>!decide (p∈qs)):Nat):Int):=by rw [andNot,Zjg hp hq]
theorem or_wdI {ps qs:List Nat}{n:Nat}(hp:Up 0 ps)(hq:Up 0 qs)(h1:∀ p∈ps,p<n)(h2:∀ p∈qs,p<n):Builtin.bitOr ((wd ps:Nat):Int) ((wd qs:Nat):Int)=((wd ((List.range n).filter fun p=>decide (p∈ps)||decide (p∈qs)):Nat):Int):=by rw [Zc8 (Int.natCast_nonneg _) (Int.natCast_nonneg _),Int.toNat_natCast,Int.toNat_natCast,or_wd hp hq h1 h2]
theorem xor_wdI {ps qs:List Nat}{n:Nat}(hp:Up 0 ps)(hq:Up 0 qs)(h1:∀ p∈ps,p<n)(h2:∀ p∈qs,p<n):Builtin.bitXor ((wd ps:Nat):Int) ((wd qs:Nat):Int)=((wd ((List.range n).filter fun p=>decide (p∈ps) != decide (p∈qs)):Nat):Int):=by
 unfold Builtin.bitXor;rw [Zc8 (Int.natCast_nonneg _) (Int.natCast_nonneg _),bitAnd_pp (Int.natCast_nonneg _) (Int.natCast_nonneg _),Int.toNat_natCast,Int.toNat_natCast,← xor_wd hp hq h1 h2];have:wd ps &&& wd qs≤wd ps ||| wd qs:=Nat.le_trans Nat.and_le_left Nat.left_le_or
 omega
theorem bgs_wdI {ps:List Nat}(hp:Up 0 ps):Builtin.bitAnd ((wd ps:Nat):Int) (Builtin.bitNot ((wd ps:Nat)*2^(1:Int).toNat:Int))=((wd (bgs ps):Nat):Int):=by
 have e:((wd ps:Nat)*2^(1:Int).toNat:Int)=((wd ps*2:Nat):Int):=by rw [Int.natCast_mul];rfl
 rw [e,andNot,wd_bgs hp]
theorem len_pl {ps:List Nat}(h:Up 0 ps)(hn:∀ p∈ps,p<256):((List.range 256).filter (wd ps).testBit).length=ps.length:=by have:=pl_wd h hn;unfold pl at this;rw [this]
theorem swarI {k n w:Nat}{m d:Int}(hm:m=((msk k n:Nat):Int))(hd:d=((2^k:Nat):Int)):Builtin.bitAnd (w:Int) m+Builtin.bitAnd ((w:Int)/d) m=((lay2 k n w:Nat):Int):=by subst hm hd;rw [← Int.natCast_ediv,bitAnd_pp (Int.natCast_nonneg _) (Int.natCast_nonneg _),bitAnd_pp (Int.natCast_nonneg _) (Int.natCast_nonneg _),Int.toNat_natCast,Int.toNat_natCast,Int.toNat_natCast,← Int.natCast_add,← swar k n w,Nat.shiftRight_eq_div_pow]
theorem countI {ps:List Nat}(h:Up 0 ps)(hn:∀ p∈ps,p<256):((lay2 8 16 (lay2 4 32 (lay2 2 64 (lay2 1 128 (wd ps)))):Nat):Int)%65535=(ps.length:Int):=by have e:=popc (wd ps);rw [len_pl h hn] at e;rw [← e,Int.natCast_emod];rfl
theorem bgs_wdI2 {ps:List Nat}(hp:Up 0 ps):Builtin.bitAnd ((wd ps:Nat):Int) (Builtin.bitNot (((wd ps:Nat):Int)*2))=((wd (bgs ps):Nat):Int):=bgs_wdI hp
theorem bgs_lt {ps:List Nat}(h:∀ p∈ps,p<256):∀ p∈bgs ps,p<256:=fun p hp=>h p (List.mem_filter.mp hp).1
theorem wd_abs {ps:List Nat}(h:Up 0 ps)(hn:∀ p∈ps,p<256):(((wd ps:Nat):Int)).natAbs<2^1000:=by rw [Int.natAbs_natCast];exact Nat.lt_of_lt_of_le (h.lt' hn) (Nat.pow_le_pow_right (by decide) (by decide))
end BM
namespace L2
open PySem PySem.Spec PyProof.Rows
section
variable {X:Cx}{pins:List (Addr × Obj)}{σ:St}{H:Hp}{s:Shared}{h':Heap}
theorem Inv.turnedNew {t':Nat} {ch:List Addr} {T:Addr} {o:HO} (I:Inv X pins σ H s) (hf:∀ b∈ch,FpOk X pins H b) (k:∀ b u,b∉ch→s.heap.get? b=some u→h'.get? b=some u) (hT:s.heap.objs.size≤T)
   (new:ObjOk X.prog X.w (upd H T o) h' T o):Inv X pins σ (upd H T o) { s with heap:=h',toks:=t' }:=by
 have nT:H T=none:=I.hok.fresh hT;have nch:∀ b u,H b=some u→b∉ch:=fun b u e z=>by
   rw [(hf b z).1] at e;cases e
 have neT:∀ b u,s.heap.get? b=some u→b≠T:=fun b u e z=>absurd (Nat.lt_of_lt_of_le (Heap.lt_size e) (by rw [z];exact hT)) (Nat.lt_irrefl _)
 have lch:X.env.locals∉ch:=fun z=>(hf _ z).2.1 rfl
 refine I.step (g':=s.gens) (d':=s.drawn) (ch:=ch) (fun b hb=>?_) (fun b u _ _ hc e _=>k b u hc e) (fun b u _ _ hc e _=>⟨u.slots,k b u hc e⟩) (fun b u _ e n=>?_) (fun b u hc e=>⟨u,k b u hc e⟩) (fun b xs e=>?_) (fun b u v e=>?_) (fun b ps e=>⟨#[],?_⟩) (fun m hm=>?_) (fun b u e=>?_) I.bare
 · obtain ⟨_,f1,_,f3,f4,f5⟩:=hf b hb
   exact ⟨f3,f1,f4,f5⟩
 · rw [Zag (neT b u e)]
   exact n
 · rw [Zag (Zar e nT)]
   exact e
 · rw [Zag (Zar e nT)]
   exact e
 · rw [Zag (Zar e nT),e]
   simp
 · obtain ⟨u,es,ep,ho,r⟩:=hm
   exact ⟨u,es,ep,k _ u lch ho,r⟩
 · by_cases hb:b=T
   · subst hb
     rw [Zac] at e;cases e;exact new
   · rw [Zag hb] at e
     refine (I.hok b u e).stay (fun c v hc q=>k c v ?_ q) (fun c q=>?_) fun c xs q=>?_
     · rcases hc with z | z
       · rw [z];exact nch b u e
       · exact nch c _ z
     · rw [Zag (Zar q nT)]
       exact q
     · rw [Zag (Zar q nT)]
       exact q
theorem Inv.turnedL {t':Nat}{ch:List Addr}(I:Inv X pins σ H s)(hf:∀ b∈ch,FpOk X pins H b)(k:∀ b u,b∉ch→s.heap.get? b=some u→h'.get? b=some u):Inv X pins σ H { s with heap:=h',toks:=t' }:=by
 have nch:∀ b u,H b=some u→b∉ch:=fun b u e z=>by
   rw [(hf b z).1] at e;cases e
 have lch:X.env.locals∉ch:=fun z=>(hf _ z).2.1 rfl
 refine I.step (g':=s.gens) (d':=s.drawn) (ch:=ch) (fun b hb=>?_) (fun b u _ _ hc e _=>k b u hc e) (fun b u _ _ hc e _=>⟨u.slots,k b u hc e⟩) (fun _ _ _ _ n=>n) (fun b u hc e=>⟨u,k b u hc e⟩) (fun _ _ e=>e) (fun _ _ _ e=>e) (fun b ps e=>⟨#[],by rw [e];simp⟩) (fun m hm=>?_) (fun b u e=>?_) I.bare
 · obtain ⟨_,f1,_,f3,f4,f5⟩:=hf b hb
   exact ⟨f3,f1,f4,f5⟩
 · obtain ⟨u,es,ep,ho,r⟩:=hm
   exact ⟨u,es,ep,k _ u lch ho,r⟩
 · refine (I.hok b u e).stay (fun c v hc q=>k c v ?_ q) (fun _ q=>q) fun _ _ q=>q
   rcases hc with z | z
   · rw [z];exact nch b u e
   · exact nch c _ z
end
def Itz (K:PySem.W.Frag)(a b:Addr):It :=
 ⟨fun i H=>∃ xs ys x y,SqL K H a xs∧SqL K H b ys∧xs[i]?=some x∧ys[i]?=some y,
  fun i H v H'=>∃ T x y,v=.ref T∧H T=none∧H'=upd H T (.tup [x,y])∧(∀ xs,SqL K H a xs→xs[i]?=some x)∧(∀ ys,SqL K H b ys→ys[i]?=some y),
  fun i H=>∃ xs ys,SqL K H a xs∧SqL K H b ys∧(xs.length≤i∨ys.length≤i)⟩
structure ZipTn (z TI TO i1 i2 a b:Addr)(i:Nat)(h:Heap):Prop where
 z:IsZip h z TI TO .none
 ti:IsPair h TI (.ref i1) (.ref i2)
 to:∃ x y,IsPair h TO x y
 i1:h.IsListIter i1 a i
 i2:h.IsListIter i2 b i
theorem turn_zip {P:Program} {w:World} {K:PySem.W.Frag} {es:List Expr} {x1} {pos:Pos} {z TI TO i1 i2 a b:Addr} (D:ZipApart z TI TO i1 i2 a b):Turn P w K (.Tuple es x1 pos) (Itz K a b) [z,TI,TO,i1,i2] z (ZipTn z TI TO i1 i2 a b) where
 mem:=by simp
 obj:=fun i h st c hc=>by
   simp only [List.mem_cons,List.not_mem_nil,or_false] at hc;obtain ⟨x,y,hto⟩:=st.to;obtain ⟨o1,e1,_,d1⟩:=st.i1;obtain ⟨o2,e2,_,d2⟩:=st.i2;rcases hc with rfl | rfl | rfl | rfl | rfl
   · exact ⟨_,st.z,fun v q=>by cases q⟩
   · exact ⟨_,st.ti,fun v q=>by cases q⟩
   · exact ⟨_,hto,fun v q=>by cases q⟩
   · exact ⟨o1,e1,fun v q=>by rw [d1] at q;cases q⟩
   · exact ⟨o2,e2,fun v q=>by rw [d2] at q;cases q⟩
 keep:=fun i h h' st k=>by
   obtain ⟨x,y,hto⟩:=st.to;exact ⟨k z (by simp) _ st.z,k TI (by simp) _ st.ti,⟨x,y,k TO (by simp) _ hto⟩,st.i1.at fun o e=>k i1 (by simp) o e,st.i2.at fun o e=>k i2 (by simp) o e⟩
 item:=by
   intro X hP hw hK hc i pins s σ H E I hf st hg;subst hP hw hK;obtain ⟨xs,ys,x,y,hq,hr,hx,hy⟩:=hg;obtain ⟨its,rv,p,_⟩:=I.list hq;obtain ⟨jts,rw_,p2,_⟩:=I.list hr;obtain ⟨u,hu,ru⟩:=rv.get hx;obtain ⟨v,hv,rv2⟩:=rw_.get hy;obtain ⟨x0,y0,hto⟩:=st.to;refine wpAny_pyNext_zip_item D st.z st.ti hto st.i1 st.i2 p.isList p2.isList (x:=u) (y:=v) (by simpa using hu) (by simpa using hv) fun g1 k1 k2 k3 k4 k5 k6 k7=>?_
   refine ⟨_,rfl,wpAny_letOwnedTupleGo_zip k1 fun g2 k8 k9=>?_⟩;have lt:∀ {c:Addr} {o:Obj},s.heap.get? c=some o→s.heap.objs.size≠c:=fun e=>Nat.ne_of_gt (Heap.lt_size e)
   have keep:∀ c o,c∉[z,TI,TO,i1,i2]→s.heap.get? c=some o→g2.get? c=some o:=fun c o hc e=>by
     simp only [List.mem_cons,List.not_mem_nil,or_false,not_or] at hc;exact k9.extBut _ _ hc.1 (k7 c o hc.1 hc.2.2.1 hc.2.2.2.1 hc.2.2.2.2 e)
   have hT:g2.get? s.heap.objs.size=some { cls:=.type "tuple",data:=.seq #[u,v] }:=k9.extBut _ _ (lt st.z) k5;have nT:H s.heap.objs.size=none:=I.hok.fresh (Nat.le_refl _);have I1:Inv X pins σ (upd H s.heap.objs.size (.tup [x,y])) { s with heap:=g2 }:=I.turnedNew (t':=s.toks) hf keep (Nat.le_refl _) ⟨by show 2≤sizeLine;decide,[u,v],.cons ru (.cons rv2 .nil),_,hT,rfl,_,rfl⟩;refine ⟨.ref s.heap.objs.size,_,I1,rfl,⟨_,x,y,rfl,nT,rfl,fun zs hz=>by rw [I.list_inj hz hq];exact hx,fun zs hz=>by rw [I.list_inj hz hr];exact hy⟩,?_,fun c hc=>?_⟩
   · have nz:∀ c,c≠z→∀ o,g1.get? c=some o→g2.get? c=some o:=fun c hc o e=>k9.extBut _ _ hc e
     exact ⟨k8,nz _ D.TIz _ (k7 _ _ D.TIz D.TITO D.TIi1 D.TIi2 st.ti),⟨u,v,nz _ D.TOz _ k2⟩,k3.at fun o e=>nz _ D.i1z o e,k4.at fun o e=>nz _ D.i2z o e⟩
   · rw [Zag ?_]
     · exact (hf c hc).1
     · rintro rfl
       simp only [List.mem_cons,List.not_mem_nil,or_false] at hc;obtain ⟨o1,e1,_⟩:=st.i1;obtain ⟨o2,e2,_⟩:=st.i2;rcases hc with q | q | q | q | q
       · exact lt st.z q
       · exact lt st.ti q
       · exact lt hto q
       · exact lt e1 q
       · exact lt e2 q
 done:=by
   intro X hP hw hK hc i pins s σ H E I hf st hg;subst hP hw hK;obtain ⟨xs,ys,hq,hr,hx⟩:=hg;obtain ⟨its,rv,p,_⟩:=I.list hq;obtain ⟨jts,rw_,p2,_⟩:=I.list hr;obtain ⟨x0,y0,hto⟩:=st.to;have e1:=rv.length;have e2:=rw_.length;refine wpAny_pyNext_zip_end (I.ok.hd hc) D st.z st.ti hto st.i1 st.i2 p.isList p2.isList ?_ fun g1 k=>?_
   · rcases hx with q | q
     · exact .inl (by simp;omega)
     · exact .inr (by simp;omega)
   · refine ⟨rfl,I.turnedL (t':=s.toks) hf fun c o hc e=>?_⟩
     simp only [List.mem_cons,List.not_mem_nil,or_false,not_or] at hc;exact k c o hc.1 hc.2.2.1 hc.2.2.2.1 hc.2.2.2.2 e
 self:=fun _ _ _ _ _ st h=>wpAny_pyIter_zip st.z h
theorem ZgH:bootBuiltins "zip"=some (.type "zip"):=by decide +kernel
def iZip (K:PySem.W.Frag)(ta:TA):TI:=fun σ H R=>ta σ H fun vs H1=>∃ a b,vs=[.ref a,.ref b]∧(∃ xs,SqL K H1 a xs)∧(∃ ys,SqL K H1 b ys)∧R (Itz K a b) H1
theorem pi_zipK {X:Cx} (K:PySem.W.Frag) {es:List Expr} {x1} {p3:Pos} {a b:Expr} {ta:TA} {p pos:Pos} (hg:Gl X "zip") (hm:X.mg "zip"=none) (ha:PA X [a,b] ta) (hK:X.K=K:=by rfl) (hs:starEach [a,b] X.env=[(false,eval a X.env),(false,eval b X.env)]:=by rfl) (hs2:starEach [b] X.env=[(false,eval b X.env)]:=by rfl) :
   PI X (.Tuple es x1 p3) (.Call (.Name "zip" p) [a,b] [] pos) (iZip K ta):=by
 subst hK;intro pins s σ H R I h;refine Call_ (ZbR I hg hm ZgH (PyProof.Rows.callWith_type1 (thn (ha pos pins s σ H _ I h) fun us s1 ⟨vs,H1,I1,r1,q1⟩=>?_) (by rw [hs,hs2]) (by rw [hs2];rfl)));obtain ⟨l1,l2,rfl,⟨xs,hx⟩,⟨ys,hy⟩,q⟩:=q1;cases r1 with
 | cons r rr =>
   cases rr with
   | cons r' rr =>
     cases rr;cases r;cases r';obtain ⟨its,rv,pl1,_⟩:=I1.list hx;obtain ⟨jts,rw_,pl2,_⟩:=I1.list hy;refine call_zip_2 pl1.isList pl2.isList fun g k1 k2 k3 k4 k5 k6 k7=>?_
     refine wpAny_pyIter_zip k1 ?_;have lt1:l1<s1.heap.objs.size:=by obtain ⟨o,e,_⟩:=pl1.isList;exact Heap.lt_size e
     have lt2:l2<s1.heap.objs.size:=by obtain ⟨o,e,_⟩:=pl2.isList;exact Heap.lt_size e
     have D:ZipApart (s1.heap.objs.size+4) (s1.heap.objs.size+2) (s1.heap.objs.size+3) s1.heap.objs.size (s1.heap.objs.size+1) l1 l2:=by constructor<;>(intro q;simp only [Addr] at *;omega)
     refine ⟨_,_,_,_,H1,rfl,I1.kept (t':=s1.toks) k7,turn_zip D,⟨k1,k2,⟨_,_,k3⟩,k4,k5⟩,fun c hc=>?_,q⟩;have le:s1.heap.objs.size≤c:=by simp only [List.mem_cons,List.not_mem_nil,or_false] at hc;rcases hc with q | q | q | q | q<;>subst q<;>first | exact Nat.le_refl _ | exact Nat.le_add_right _ _
     exact I1.fpOk le (I1.hok.fresh le)
theorem Zjt {K:PySem.W.Frag}{ta:TA}{σ:St}{H:Hp}{R:It→Hp→Prop}:iZip K ta σ H R=ta σ H fun vs H1=>∃ a b,vs=[.ref a,.ref b]∧(∃ xs,SqL K H1 a xs)∧(∃ ys,SqL K H1 b ys)∧R (Itz K a b) H1:=rfl
theorem Zfs {r r':R2}{ta tb tc:TE}{σ:St}{H:Hp}{Q:VK}:tChain r r' ta tb tc σ H Q=ta σ H fun x H1=>tb σ H1 fun y H2=>r x y H2 fun z H3=>∃ k,z=.bl k∧(if k=true then tc σ H3 fun w' H4=>r' y w' H4 Q else Q (.bl false) H3):=rfl
end L2
namespace L2
open PySem PySem.Spec PyProof.Rows
section
variable {x:V}{vs:List V}{H:Hp}{Q:VK}
end
end L2
namespace ZT
open PySem PySem.Spec PyProof.Rows
section
variable {prog:Program}{w:World}{A:Around}{E:Value→Shared→Prop}{s:Shared}
end
section
variable {prog:Program}{w:World}{A:Around}{E:Value→Shared→Prop}{s:Shared}
end
theorem size_push {h:Heap}{o:Obj}:(h.push o).objs.size=h.objs.size+1:=Heap.size_push ..
section
variable {prog:Program}{w:World}{A:Around}{E:Value→Shared→Prop}{s:Shared}
end
end ZT
namespace L2
open PySem PySem.Spec PyProof.Rows
structure ZipTt (z TI TO i1 i2 a b:Addr)(i:Nat)(h:Heap):Prop where
 z:IsZip h z TI TO .none
 ti:IsPair h TI (.ref i1) (.ref i2)
 to:∃ x y,IsPair h TO x y
 i1:IsTupIter h i1 a i
 i2:IsTupIter h i2 b i
end L2
namespace L2
open PySem PySem.Spec PyProof.Rows
abbrev bmVal:List Value:=[.type "ValueError",.type "Exception",.type "BaseException",.type "object"]
structure XCls (K:PySem.W.Frag)(C:Addr):Prop where
 q:PySem.W.excIn K C bmVal "ValueError.__new__"=true
 kp:PySem.W.keepIn K (.ref C)=true
section
variable {K:PySem.W.Frag}{h:Heap}{C:Addr}
end
section
variable {P:Program}{w:World}{H:Hp}{h h':Heap}{a:Addr}{o:HO}
end
section
variable {X:Cx}{C:Addr}
end
end L2
namespace Srt
open PySem PyProof.Rows
def gallop':Bool→Keyed→Array Keyed→Nat→Nat→Nat→StateT SortSt Sem (Option Nat):=sortPriv% PySem.Builtin.gallop
def beyond' (left:Bool)(key:Keyed)(arr:Array Keyed)(base i:Nat):StateT SortSt Sem (Option Bool):=do
 let x ← elem' arr (base+i)
 if left then lt' x key else return (← lt' key x).map (!·)
structure Cmp (M:Model)(A:Around)(E:Value→Shared→Prop)(s:Shared)(kd:SortKind)(S:Keyed→Prop)(L:Keyed→Keyed→Bool):Prop where
 lt:∀ (x y:Keyed) (st:SortSt) (Q:Option Bool→SortSt→Prop),S x→S y→kindOf st=kd→Q (some (L x y)) st→wpS M A E s (lt' x y) Q st
 asym:∀ x y,L x y=true→L y x=false
 neg:∀ x y z,S x→S y→S z→L x z=true→L x y=true∨L y z=true
section
variable {M:Model}{A:Around}{E:Value→Shared→Prop}{s:Shared}{kd:SortKind}{S:Keyed→Prop}{L:Keyed→Keyed→Bool}
def pb (L:Keyed→Keyed→Bool)(left:Bool)(key:Keyed)(arr:Array Keyed)(base i:Nat):Bool:=match arr[base+i]? with
 | some x=>if left then L x key else !L key x
 | none=>false
theorem Zak {arr:Array Keyed}{i:Nat}{x:Keyed}{st:SortSt}{Q:Keyed→SortSt→Prop}(e:arr[i]?=some x)(h:Q x st):wpS M A E s (elem' arr i) Q st:=by rw [elem'_eq,e];exact wpS_pure h
theorem ZiE (C:Cmp M A E s kd S L){left:Bool}{key:Keyed}{arr:Array Keyed}{base i:Nat}{st:SortSt}{Q:Option Bool→SortSt→Prop}(hk:kindOf st=kd)(sk:S key)(sa:∀ x∈arr.toList,S x)(hi:base+i<arr.size)
   (h:Q (some (pb L left key arr base i)) st):wpS M A E s (beyond' left key arr base i) Q st:=by
 have e:arr[base+i]?=some (arr[base+i]'hi):=getElem?_pos arr (base+i) hi;have sx:S (arr[base+i]'hi):=sa _ (by simp);unfold pb at h;rw [e] at h;unfold beyond';refine wpS_bind (Zak e ?_);cases left with
 | true=>exact C.lt _ _ _ _ sx sk hk h
 | false =>
   simp only [Bool.false_eq_true,if_false] at h ⊢;exact wpS_bind (C.lt _ _ _ _ sk sx hk (wpS_pure h))
theorem Zaz (C:Cmp M A E s kd S L) {left:Bool} {key:Keyed} {arr:Array Keyed} {base n hint:Nat} {st:SortSt} {Q:Option Nat→SortSt→Prop} (hk:kindOf st=kd) (sk:S key) (sa:∀ x∈arr.toList,S x) (hn:base+n≤arr.size) (hh:hint<n)
   (mono:∀ i j,i≤j→j<n→pb L left key arr base j=true→pb L left key arr base i=true)
   (h:∀ k,k≤n→(∀ i,i<k→pb L left key arr base i=true)→(∀ i,k≤i→i<n→pb L left key arr base i=false)→Q (some k) st):wpS M A E s (gallop' left key arr base n hint) Q st:=by
 unfold gallop'
 k_delta "gallop"
 dsimp only;generalize hp:pb L left key arr base=p at mono h;have monoF:∀ i j,i≤j→j<n→p i=false→p j=false:=fun i j hij hj hi=>by
   cases e:p j with
   | false=>rfl
   | true=>rw [mono i j hij hj e] at hi;cases hi
 have ask:∀ {i:Nat} {Q':Option Bool→SortSt→Prop},i<n→Q' (some (p i)) st→wpS M A E s (beyond' left key arr base i) Q' st:=fun hi q =>
   ZiE C hk sk sa (by omega) (by rw [hp];exact q)
 refine wpS_bind (ask hh ?_);dsimp only;cases e0:p hint with
 | true =>
   rw [if_pos rfl];refine wpS_bind (wpS_mono (wpS_forRange (I:=fun x c st'=>st=st'∧c.1=none∧c.2.1<c.2.2∧hint+c.2.1<n∧x+1≤c.2.2∧p (hint+c.2.1)=true)
     (Q:=fun c st'=>st=st'∧c.1=none∧c.2.1<c.2.2∧hint+c.2.1<n∧p (hint+c.2.1)=true∧(c.2.2≥n-hint∨p (hint+c.2.2)=false)) ?step ?fin ?init) ?post)
   case init=>exact ⟨rfl,rfl,Nat.one_pos,hh,Nat.le_refl _,e0⟩
   case fin =>
     rintro ⟨c1,c2,c3⟩ st' ⟨rfl,e1,g1,g2,g3,g4⟩;refine ⟨rfl,e1,g1,g2,g4,.inl ?_⟩;dsimp only at *;omega
   case step =>
     rintro x ⟨c1,c2,c3⟩ st' _ hx ⟨rfl,e1,g1,g2,g3,g4⟩;dsimp only at *;subst e1;by_cases hlt:c3≥n-hint
     · rw [if_pos hlt]
       exact wpS_pure ⟨rfl,rfl,g1,g2,g4,.inl hlt⟩
     · rw [if_neg hlt]
       refine wpS_bind (ask (by omega) ?_);dsimp only;cases e:p (hint+c3) with
       | true =>
         rw [if_neg (by decide)];refine wpS_pure ⟨rfl,rfl,?_,?_,?_,e⟩
         · show c3<2*c3+1
           omega
         · show hint+c3<n
           omega
         · show x+1+1≤2*c3+1
           omega
       | false =>
         rw [if_pos (by decide)];exact wpS_pure ⟨rfl,rfl,g1,g2,g4,.inr e⟩
   case post =>
     rintro ⟨c1,c2,c3⟩ st' ⟨rfl,e1,g1,g2,g4,g5⟩;dsimp only at *;subst e1;dsimp only;have h1:hint+c2+1≤hint+min c3 (n-hint):=by omega
     have h2:hint+min c3 (n-hint)≤n:=by omega
     have h3:∀ i,i<hint+c2+1→p i=true:=fun i hi=>mono i (hint+c2) (by omega) g2 g4
     have h4:∀ i,hint+min c3 (n-hint)≤i→i<n→p i=false:=by
       intro i hi hin;rcases g5 with z | z
       · omega
       · by_cases hc:c3≥n-hint
         · omega
         · exact monoF _ i (by omega) hin z
     clear g1 g2 g4 g5;refine wpS_bind (wpS_mono (wpS_forRange (I:=fun x c st'=>st=st'∧c.1=none∧c.2.1≤c.2.2∧c.2.2≤n∧(c.2.2-c.2.1≤n-x)∧(∀ i,i<c.2.1→p i=true)∧(∀ i,c.2.2≤i→i<n→p i=false))
       (Q:=fun c st'=>st=st'∧c.1=none∧c.2.2≤n∧(∀ i,i<c.2.2→p i=true)∧(∀ i,c.2.2≤i→i<n→p i=false)) ?step2 ?fin2 ?init2) ?post2)
     case init2=>exact ⟨rfl,rfl,h1,h2,Nat.le_trans (Nat.sub_le _ _) h2,h3,h4⟩
     case fin2 =>
       rintro ⟨c1,c2,c3⟩ st' ⟨rfl,e1,g1,g2,g3,g4,g5⟩;dsimp only at *;have:c2=c3:=by omega
       subst this;exact ⟨rfl,e1,g2,g4,g5⟩
     case post2 =>
       rintro ⟨c1,c2,c3⟩ st' ⟨rfl,e1,g2,g4,g5⟩;dsimp only at *;subst e1;exact wpS_pure (h _ g2 g4 g5)
     case step2 =>
       rintro x ⟨c1,c2,c3⟩ st' _ hx ⟨rfl,e1,g1,g2,g3,g4,g5⟩;dsimp only at *;subst e1;by_cases hlt:c2≥c3
       · rw [if_pos hlt]
         have:c2=c3:=by omega
         subst this;exact wpS_pure ⟨rfl,rfl,g2,g4,g5⟩
       · rw [if_neg hlt]
         refine wpS_bind (ask (by omega) ?_);dsimp only;cases e:p (c2+(c3-c2)/2) with
         | true =>
           rw [if_pos rfl];refine wpS_pure ⟨rfl,rfl,?_,g2,?_,fun i hi=>?_,g5⟩
           · show c2+(c3-c2)/2+1≤c3
             omega
           · show c3-(c2+(c3-c2)/2+1)≤n-(x+1)
             omega
           · have hi:i<c2+(c3-c2)/2+1:=hi
             exact mono i _ (by omega) (by omega) e
         | false =>
           rw [if_neg (by decide)];refine wpS_pure ⟨rfl,rfl,?_,?_,?_,g4,fun i hi hin=>monoF _ i hi hin e⟩
           · show c2≤c2+(c3-c2)/2
             omega
           · show c2+(c3-c2)/2≤n
             omega
           · show c2+(c3-c2)/2-c2≤n-(x+1)
             omega
 | false =>
   rw [if_neg (by decide)];refine wpS_bind (wpS_mono (wpS_forRange (I:=fun x c st'=>st=st'∧c.1=none∧c.2.1<c.2.2∧c.2.1≤hint∧x+1≤c.2.2∧p (hint-c.2.1)=false)
     (Q:=fun c st'=>st=st'∧c.1=none∧c.2.1<c.2.2∧c.2.1≤hint∧p (hint-c.2.1)=false∧(c.2.2≥hint+1∨p (hint-c.2.2)=true)) ?step ?fin ?init) ?post)
   case init=>exact ⟨rfl,rfl,Nat.one_pos,Nat.zero_le _,Nat.le_refl _,e0⟩
   case fin =>
     rintro ⟨c1,c2,c3⟩ st' ⟨rfl,e1,g1,g2,g3,g4⟩;refine ⟨rfl,e1,g1,g2,g4,.inl ?_⟩;dsimp only at *;omega
   case step =>
     rintro x ⟨c1,c2,c3⟩ st' _ hx ⟨rfl,e1,g1,g2,g3,g4⟩;dsimp only at *;subst e1;by_cases hlt:c3≥hint+1
     · rw [if_pos hlt]
       exact wpS_pure ⟨rfl,rfl,g1,g2,g4,.inl hlt⟩
     · rw [if_neg hlt]
       refine wpS_bind (ask (by omega) ?_);dsimp only;cases e:p (hint-c3) with
       | true =>
         rw [if_pos rfl];exact wpS_pure ⟨rfl,rfl,g1,g2,g4,.inr e⟩
       | false =>
         rw [if_neg (by decide)];refine wpS_pure ⟨rfl,rfl,?_,?_,?_,e⟩
         · show c3<2*c3+1
           omega
         · show c3≤hint
           omega
         · show x+1+1≤2*c3+1
           omega
   case post =>
     rintro ⟨c1,c2,c3⟩ st' ⟨rfl,e1,g1,g2,g4,g5⟩;dsimp only at *;subst e1;dsimp only;have h1:hint+1-min c3 (hint+1)≤hint-c2:=by omega
     have h2:hint-c2≤n:=by omega
     have h3:∀ i,i<hint+1-min c3 (hint+1)→p i=true:=by
       intro i hi;rcases g5 with z | z
       · omega
       · by_cases hc:c3≥hint+1
         · omega
         · exact mono i (hint-c3) (by omega) (by omega) z
     have h4:∀ i,hint-c2≤i→i<n→p i=false:=fun i hi hin=>monoF _ i hi hin g4
     clear g1 g2 g4 g5;refine wpS_bind (wpS_mono (wpS_forRange (I:=fun x c st'=>st=st'∧c.1=none∧c.2.1≤c.2.2∧c.2.2≤n∧(c.2.2-c.2.1≤n-x)∧(∀ i,i<c.2.1→p i=true)∧(∀ i,c.2.2≤i→i<n→p i=false))
       (Q:=fun c st'=>st=st'∧c.1=none∧c.2.2≤n∧(∀ i,i<c.2.2→p i=true)∧(∀ i,c.2.2≤i→i<n→p i=false)) ?step2 ?fin2 ?init2) ?post2)
     case init2=>exact ⟨rfl,rfl,h1,h2,Nat.le_trans (Nat.sub_le _ _) h2,h3,h4⟩
     case fin2 =>
       rintro ⟨c1,c2,c3⟩ st' ⟨rfl,e1,g1,g2,g3,g4,g5⟩;dsimp only at *;have:c2=c3:=by omega
       subst this;exact ⟨rfl,e1,g2,g4,g5⟩
     case post2 =>
       rintro ⟨c1,c2,c3⟩ st' ⟨rfl,e1,g2,g4,g5⟩;dsimp only at *;subst e1;exact wpS_pure (h _ g2 g4 g5)
     case step2 =>
       rintro x ⟨c1,c2,c3⟩ st' _ hx ⟨rfl,e1,g1,g2,g3,g4,g5⟩;dsimp only at *;subst e1;by_cases hlt:c2≥c3
       · rw [if_pos hlt]
         have:c2=c3:=by omega
         subst this;exact wpS_pure ⟨rfl,rfl,g2,g4,g5⟩
       · rw [if_neg hlt]
         refine wpS_bind (ask (by omega) ?_);dsimp only;cases e:p (c2+(c3-c2)/2) with
         | true =>
           rw [if_pos rfl];refine wpS_pure ⟨rfl,rfl,?_,g2,?_,fun i hi=>?_,g5⟩
           · show c2+(c3-c2)/2+1≤c3
             omega
           · show c3-(c2+(c3-c2)/2+1)≤n-(x+1)
             omega
           · have hi:i<c2+(c3-c2)/2+1:=hi
             exact mono i _ (by omega) (by omega) e
         | false =>
           rw [if_neg (by decide)];refine wpS_pure ⟨rfl,rfl,?_,?_,?_,g4,fun i hi hin=>monoF _ i hi hin e⟩
           · show c2≤c2+(c3-c2)/2
             omega
           · show c2+(c3-c2)/2≤n
             omega
           · show c2+(c3-c2)/2-c2≤n-(x+1)
             omega
end
end Srt
namespace Srt
open PySem PyProof.Rows
structure Ord (S:Keyed→Prop)(L:Keyed→Keyed→Bool):Prop where
 asym:∀ x y,L x y=true→L y x=false
 neg:∀ x y z,S x→S y→S z→L x z=true→L x y=true∨L y z=true
abbrev Rise (L:Keyed→Keyed→Bool)(l:List Keyed):Prop:=l.Pairwise fun x y=>L y x=false
section
variable {S:Keyed→Prop}{L:Keyed→Keyed→Bool}
theorem Ord.step (O:Ord S L){x y z:Keyed}(sx:S x)(sy:S y)(sz:S z)(h1:L z y=false)(h2:L y x=false):L z x=false:=by
 cases e:L z x with
 | false=>rfl
 | true =>
   rcases O.neg z y x sz sy sx e with q | q
   · rw [q] at h1;cases h1
   · rw [q] at h2;cases h2
structure MI (L:Keyed→Keyed→Bool)(al bl ol:List Keyed)(ia ib:Nat):Prop where
 perm:ol.Perm (al.take ia++bl.take ib)
 rise:Rise L ol
 lea:∀ x∈ol,∀ y∈al.drop ia,L y x=false
 leb:∀ x∈ol,∀ y∈bl.drop ib,L y x=false
 ha:ia≤al.length
 hb:ib≤bl.length
theorem MI.len {al bl ol:List Keyed}{ia ib:Nat}(h:MI L al bl ol ia ib):ol.length=ia+ib:=by rw [h.perm.length_eq,List.length_append,List.length_take,List.length_take];have:=h.ha;have:=h.hb;omega
theorem ZfD {α:Type}(l:List α)(i k:Nat):l.take (i+k)=l.take i++(l.drop i).take k:=by rw [List.take_add]
theorem Zhm {α:Type}{l:List α}{i k:Nat}{y:α}(h:y∈l.drop (i+k)):y∈l.drop i:=by rw [← List.drop_drop] at h;exact List.mem_of_mem_drop h
theorem Zcs {l:List Keyed}(h:Rise L l)(i k:Nat):∀ x∈(l.drop i).take k,∀ y∈l.drop (i+k),L y x=false:=by intro x hx y hy;have h2:Rise L (l.drop i):=h.sublist (List.drop_sublist _ _);rw [← List.take_append_drop k (l.drop i)] at h2;rw [← List.drop_drop] at hy;exact (List.pairwise_append.mp h2).2.2 x hx y hy
theorem MI.takeB {al bl ol:List Keyed}{ia ib:Nat}(h:MI L al bl ol ia ib)(rb:Rise L bl)(k:Nat)(hk:ib+k≤bl.length)(c:∀ y∈(bl.drop ib).take k,∀ z∈al.drop ia,L z y=false):MI L al bl (ol++(bl.drop ib).take k) ia (ib+k) where
 perm:=by rw [ZfD,← List.append_assoc];exact h.perm.append_right _
 rise:=List.pairwise_append.mpr ⟨h.rise,(rb.sublist (List.drop_sublist _ _)).sublist (List.take_sublist _ _),fun x hx y hy=>h.leb x hx y (List.mem_of_mem_take hy)⟩
 lea:=fun x hx y hy=>by
   rcases List.mem_append.mp hx with z | z
   · exact h.lea x z y hy
   · exact c x z y hy
 leb:=fun x hx y hy=>by
   rcases List.mem_append.mp hx with z | z
   · exact h.leb x z y (Zhm hy)
   · exact Zcs rb ib k x z y hy
 ha:=h.ha
 hb:=hk
theorem MI.takeA {al bl ol:List Keyed}{ia ib:Nat}(h:MI L al bl ol ia ib)(ra:Rise L al)(k:Nat)(hk:ia+k≤al.length)(c:∀ y∈(al.drop ia).take k,∀ z∈bl.drop ib,L z y=false):MI L al bl (ol++(al.drop ia).take k) (ia+k) ib where
 perm:=by rw [ZfD];refine (h.perm.append_right _).trans ?_;rw [List.append_assoc,List.append_assoc];exact List.Perm.append_left _ List.perm_append_comm
 rise:=List.pairwise_append.mpr ⟨h.rise,(ra.sublist (List.drop_sublist _ _)).sublist (List.take_sublist _ _),fun x hx y hy=>h.lea x hx y (List.mem_of_mem_take hy)⟩
 lea:=fun x hx y hy=>by
   rcases List.mem_append.mp hx with z | z
   · exact h.lea x z y (Zhm hy)
   · exact Zcs ra ia k x z y hy
 leb:=fun x hx y hy=>by
   rcases List.mem_append.mp hx with z | z
   · exact h.leb x z y hy
   · exact c x z y hy
 ha:=hk
 hb:=h.hb
abbrev Mrg (L:Keyed→Keyed→Bool)(al bl ol:List Keyed):Prop:=ol.Perm (al++bl)∧Rise L ol
theorem MI.doneA {al bl ol:List Keyed}{ia:Nat}(h:MI L al bl ol ia bl.length)(ra:Rise L al):Mrg L al bl (ol++al.drop ia):=by
 constructor
 · refine (h.perm.append_right _).trans ?_
   rw [List.take_of_length_le (Nat.le_refl _),List.append_assoc];refine (List.Perm.append_left _ List.perm_append_comm).trans ?_;rw [← List.append_assoc,List.take_append_drop]
 · exact List.pairwise_append.mpr ⟨h.rise,ra.sublist (List.drop_sublist _ _),h.lea⟩
theorem MI.doneB {al bl ol:List Keyed}{ib:Nat}(h:MI L al bl ol al.length ib)(rb:Rise L bl):Mrg L al bl (ol++bl.drop ib):=by
 constructor
 · refine (h.perm.append_right _).trans ?_
   rw [List.take_of_length_le (Nat.le_refl al.length),List.append_assoc,List.take_append_drop]
 · exact List.pairwise_append.mpr ⟨h.rise,rb.sublist (List.drop_sublist _ _),h.leb⟩
theorem MI.lastA {al bl ol:List Keyed}{ia ib:Nat}(h:MI L al bl ol ia ib)(ra:Rise L al)(rb:Rise L bl)(c:∀ y∈bl.drop ib,∀ z∈al.drop ia,L z y=false):Mrg L al bl (ol++bl.drop ib++al.drop ia):=by
 constructor
 · refine ((h.perm.append_right _).append_right _).trans ?_
   have e:al.take ia++bl.take ib++bl.drop ib++al.drop ia=al.take ia++(bl++al.drop ia):=by rw [List.append_assoc (al.take ia),List.take_append_drop,List.append_assoc]
   rw [e];refine (List.Perm.append_left _ List.perm_append_comm).trans ?_;rw [← List.append_assoc,List.take_append_drop]
 · refine List.pairwise_append.mpr ⟨List.pairwise_append.mpr ⟨h.rise,rb.sublist (List.drop_sublist _ _),h.leb⟩,ra.sublist (List.drop_sublist _ _),fun x hx y hy=>?_⟩
   rcases List.mem_append.mp hx with z | z
   · exact h.lea x z y hy
   · exact c x z y hy
end
def mergeLo':Array Keyed→Array Keyed→StateT SortSt Sem (Array Keyed):=sortPriv% PySem.Builtin.mergeLo
def setMinGallop':Nat→StateT SortSt Sem Unit:=sortPriv% PySem.Builtin.setMinGallop
theorem Zdz (g:Nat):setMinGallop' g=modify fun s=>SortSt.mk' (kindOf s) (arrOf s) (pendingOf s) g (failedOf s):=rfl
structure Sm (st st':SortSt):Prop where
 kind:kindOf st'=kindOf st
 arr:arrOf st'=arrOf st
 pend:pendingOf st'=pendingOf st
 failed:failedOf st'=failedOf st
section
variable {M:Model}{A:Around}{E:Value→Shared→Prop}{s:Shared}{kd:SortKind}{S:Keyed→Prop}{L:Keyed→Keyed→Bool}
theorem Cmp.ord (C:Cmp M A E s kd S L):Ord S L:=⟨C.asym,C.neg⟩
theorem ZbI {a:Array Keyed}{i:Nat}(h:i<a.size):a.toList.drop i=a[i]::a.toList.drop (i+1):=by rw [List.drop_eq_getElem_cons (by simpa using h)];simp
theorem Zan {a:Array Keyed}{i:Nat}(h:i<a.size):a[i]∈a.toList:=by simp
theorem Zec {a:Array Keyed}{i:Nat}(ra:Rise L a.toList)(h:i<a.size):∀ z∈a.toList.drop (i+1),L z a[i]=false:=by intro z hz;have h2:Rise L (a.toList.drop i):=ra.sublist (List.drop_sublist _ _);rw [ZbI h] at h2;exact (List.pairwise_cons.mp h2).1 z hz
theorem ZfX (O:Ord S L){a:Array Keyed}{i:Nat}(sa:∀ x∈a.toList,S x)(ra:Rise L a.toList)(h:i<a.size){y:Keyed}(sy:S y)(c:L a[i] y=false):∀ z∈a.toList.drop i,L z y=false:=by
 intro z hz;rw [ZbI h] at hz;rcases List.mem_cons.mp hz with e | e
 · rw [e]
   exact c
 · exact O.step sy (sa _ (Zan h)) (sa _ (List.mem_of_mem_drop e)) (Zec ra h z e) c
variable {a b out:Array Keyed}{ia ib k:Nat}
theorem MI.pushB (O:Ord S L)(m:MI L a.toList b.toList out.toList ia ib)(sa:∀ x∈a.toList,S x)(sb:∀ x∈b.toList,S x)(ra:Rise L a.toList)(rb:Rise L b.toList)(hia:ia<a.size)(hib:ib<b.size)(c:L a[ia] b[ib]=false) :
   MI L a.toList b.toList (out.push b[ib]).toList ia (ib+1):=by
 have e:(b.toList.drop ib).take 1=[b[ib]]:=by rw [ZbI hib];rfl
 have:=m.takeB rb 1 (by simp;omega) (by
   rw [e];intro y hy z hz;have hy:y=b[ib]:=by simpa using hy
   subst hy;exact ZfX O sa ra hia (sb _ (Zan hib)) c z hz)
 rw [e] at this;rw [Array.toList_push];exact this
theorem MI.pushA (O:Ord S L)(m:MI L a.toList b.toList out.toList ia ib)(sa:∀ x∈a.toList,S x)(sb:∀ x∈b.toList,S x)(ra:Rise L a.toList)(rb:Rise L b.toList)(hia:ia<a.size)(hib:ib<b.size)(c:L b[ib] a[ia]=false) :
   MI L a.toList b.toList (out.push a[ia]).toList (ia+1) ib:=by
 have e:(a.toList.drop ia).take 1=[a[ia]]:=by rw [ZbI hia];rfl
 have:=m.takeA ra 1 (by simp;omega) (by
   rw [e];intro y hy z hz;have hy:y=a[ia]:=by simpa using hy
   subst hy;exact ZfX O sb rb hib (sa _ (Zan hia)) c z hz)
 rw [e] at this;rw [Array.toList_push];exact this
theorem ZeE (a:Array Keyed)(i k:Nat):(a.extract i (i+k)).toList=(a.toList.drop i).take k:=by simp [List.extract_eq_take_drop]
theorem ZcE (a:Array Keyed)(i:Nat):(a.extract i a.size).toList=a.toList.drop i:=by simp only [Array.toList_extract,List.extract_eq_take_drop];exact List.take_of_length_le (by simp)
theorem Zbt {a:Array Keyed}{i k:Nat}{x:Keyed}(h:x∈(a.toList.drop i).take k):∃ j,j<k∧∃ q:i+j<a.size,x=a[i+j]:=by
 obtain ⟨j,hj,e⟩:=List.mem_iff_getElem.mp h;rw [List.length_take,List.length_drop] at hj;have:i+j<a.size:=by simp at hj;omega
 refine ⟨j,by omega,this,?_⟩;rw [← e];simp
theorem MI.extA (O:Ord S L)(m:MI L a.toList b.toList out.toList ia ib)(sa:∀ x∈a.toList,S x)(sb:∀ x∈b.toList,S x)(ra:Rise L a.toList)(rb:Rise L b.toList)(hib:ib<b.size)(hk:ia+k≤a.size)(c:∀ i,i<k→pb L false b[ib] a ia i=true) :
   MI L a.toList b.toList (out++a.extract ia (ia+k)).toList (ia+k) ib:=by
 rw [Array.toList_append,ZeE];refine m.takeA ra k (by simpa using hk) fun y hy z hz=>?_
 obtain ⟨j,hj,q,rfl⟩:=Zbt hy;have:=c j hj;unfold pb at this;rw [getElem?_pos a (ia+j) q] at this;simp only [Bool.false_eq_true,if_false,Bool.not_eq_true'] at this;exact ZfX O sb rb hib (sa _ (Zan q)) this z hz
theorem MI.extB (O:Ord S L)(m:MI L a.toList b.toList out.toList ia ib)(sa:∀ x∈a.toList,S x)(sb:∀ x∈b.toList,S x)(ra:Rise L a.toList)(rb:Rise L b.toList)(hia:ia<a.size)(hk:ib+k≤b.size)(c:∀ i,i<k→pb L true a[ia] b ib i=true) :
   MI L a.toList b.toList (out++b.extract ib (ib+k)).toList ia (ib+k):=by
 rw [Array.toList_append,ZeE];refine m.takeB rb k (by simpa using hk) fun y hy z hz=>?_
 obtain ⟨j,hj,q,rfl⟩:=Zbt hy;have:=c j hj;unfold pb at this;rw [getElem?_pos b (ib+j) q] at this;simp only [if_true] at this;exact ZfX O sa ra hia (sb _ (Zan q)) (O.asym _ _ this) z hz
theorem MI.finA (m:MI L a.toList b.toList out.toList ia ib)(ra:Rise L a.toList)(e:ib=b.size):Mrg L a.toList b.toList (out++a.extract ia a.size++b.extract ib b.size).toList:=by
 have e1:ib=b.toList.length:=by simpa using e
 subst e1;rw [Array.toList_append,Array.toList_append,ZcE,ZcE,List.drop_of_length_le (Nat.le_refl _),List.append_nil];exact m.doneA ra
theorem MI.finB (m:MI L a.toList b.toList out.toList ia ib)(rb:Rise L b.toList)(e:ia=a.size):Mrg L a.toList b.toList (out++a.extract ia a.size++b.extract ib b.size).toList:=by
 have e1:ia=a.toList.length:=by simpa using e
 subst e1;rw [Array.toList_append,Array.toList_append,ZcE,ZcE,List.drop_of_length_le (Nat.le_refl a.toList.length),List.append_nil];exact m.doneB rb
theorem MI.finL (m:MI L a.toList b.toList out.toList ia ib)(ra:Rise L a.toList)(rb:Rise L b.toList)(e:ia+1=a.size)(hl:∀ z∈a.toList.drop (a.size-1),∀ y∈b.toList,L z y=false) :
   Mrg L a.toList b.toList (out++b.extract ib b.size++a.extract ia a.size).toList:=by
 rw [Array.toList_append,Array.toList_append,ZcE,ZcE];refine m.lastA ra rb fun y hy z hz=>hl z (by rw [← e];exact hz) y (List.mem_of_mem_drop hy)
structure MS (L:Keyed→Keyed→Bool)(st:SortSt)(a b out:Array Keyed)(ia ib:Nat)(st':SortSt):Prop where
 sm:Sm st st'
 mi:MI L a.toList b.toList out.toList ia ib
 ha:ia+1<a.size
 hb:ib<b.size
theorem MI.size {a b out:Array Keyed}{ia ib:Nat}(m:MI L a.toList b.toList out.toList ia ib):out.size=ia+ib:=by have:=m.len;simpa using this
theorem Sm.refl (st:SortSt):Sm st st:=⟨rfl,rfl,rfl,rfl⟩
theorem Sm.gal {st st':SortSt}(h:Sm st st')(g:Nat):Sm st (SortSt.mk' (kindOf st') (arrOf st') (pendingOf st') g (failedOf st')):=⟨h.kind,h.arr,h.pend,h.failed⟩
theorem ZaM {g:Nat}{st:SortSt}{Q:Unit→SortSt→Prop}(h:Q () (SortSt.mk' (kindOf st) (arrOf st) (pendingOf st) g (failedOf st))):wpS M A E s (setMinGallop' g) Q st:=by rw [Zdz];exact wpS_modify h
theorem ZcD (O:Ord S L){a:Array Keyed}{ia n:Nat}{key:Keyed}(sa:∀ x∈a.toList,S x)(ra:Rise L a.toList)(sk:S key)(hn:ia+n≤a.size):∀ i j,i≤j→j<n→pb L false key a ia j=true→pb L false key a ia i=true:=by
 intro i j hij hj h;unfold pb at *;rw [getElem?_pos a (ia+j) (by omega)] at h;rw [getElem?_pos a (ia+i) (by omega)];simp only [Bool.false_eq_true,if_false,Bool.not_eq_true'] at h ⊢;rcases Nat.lt_or_ge i j with q | q
 · have:=Zec ra (i:=ia+i) (by omega) (a[ia+j]'(by omega)) (List.mem_iff_getElem.mpr ⟨j-i-1,by simp;omega,by simp;congr 1;omega⟩)
   exact O.step (sa _ (Zan _)) (sa _ (Zan _)) sk h this
 · have:i=j:=by omega
   subst this;exact h
theorem Za9 (O:Ord S L){a:Array Keyed}{ia n:Nat}{key:Keyed}(sa:∀ x∈a.toList,S x)(ra:Rise L a.toList)(sk:S key)(hn:ia+n≤a.size):∀ i j,i≤j→j<n→pb L true key a ia j=true→pb L true key a ia i=true:=by
 intro i j hij hj h;unfold pb at *;rw [getElem?_pos a (ia+j) (by omega)] at h;rw [getElem?_pos a (ia+i) (by omega)];simp only [if_true] at h ⊢;rcases Nat.lt_or_ge i j with q | q
 · have:=Zec ra (i:=ia+i) (by omega) (a[ia+j]'(by omega)) (List.mem_iff_getElem.mpr ⟨j-i-1,by simp;omega,by simp;congr 1;omega⟩)
   rcases O.neg _ _ _ (sa _ (Zan _)) (sa _ (Zan (i:=ia+i) (by omega))) sk h with z | z
   · rw [this] at z
     cases z
   · exact z
 · have:i=j:=by omega
   subst this;exact h
theorem pb_f {a:Array Keyed}{ia i:Nat}{key:Keyed}(q:ia+i<a.size):pb L false key a ia i=!L key a[ia+i]:=by unfold pb;rw [getElem?_pos a (ia+i) q];rfl
theorem pb_t {a:Array Keyed}{ia i:Nat}{key:Keyed}(q:ia+i<a.size):pb L true key a ia i=L a[ia+i] key:=by unfold pb;rw [getElem?_pos a (ia+i) q];rfl
theorem Zhs (C:Cmp M A E s kd S L) {a b:Array Keyed} {st:SortSt} {Q:Array Keyed→SortSt→Prop} (hk:kindOf st=kd) (sa:∀ x∈a.toList,S x) (sb:∀ x∈b.toList,S x) (ra:Rise L a.toList) (rb:Rise L b.toList) (na:0<a.size) (nb:0<b.size)
   (h0:∀ z∈a.toList,L z b[0]=false) (hl:∀ z∈a.toList.drop (a.size-1),∀ y∈b.toList,L z y=false)
   (h:∀ o st',Sm st st'→Mrg L a.toList b.toList o.toList→Q o st'):wpS M A E s (mergeLo' a b) Q st:=by
 have O:=C.ord;unfold mergeLo'
 k_delta "mergeLo"
 refine wpS_bind (wpS_lift (wpAny_rule ⟨rfl,?_⟩));refine wpS_bind (Zak (getElem?_pos b 0 nb) ?_);dsimp only;have nil:MI L a.toList b.toList (#[]:Array Keyed).toList 0 0:=⟨by simp,.nil,fun _ z=>by simp at z,fun _ z=>by simp at z,Nat.zero_le _,Nat.zero_le _⟩
 have ini:MI L a.toList b.toList (#[b[0]]:Array Keyed).toList 0 1:=nil.pushB O sa sb ra rb na nb (h0 _ (Zan na));by_cases e1:(1==b.size)=true
 · rw [if_pos e1]
   exact wpS_pure (h _ _ (Sm.refl _) (ini.finA ra (by simpa using e1)))
 rw [if_neg e1];by_cases e2:(0+1==a.size)=true
 · rw [if_pos e2]
   exact wpS_pure (h _ _ (Sm.refl _) (ini.finL ra rb (by simpa using e2) hl))
 rw [if_neg e2];have e1':1<b.size:=by
   have:1≠b.size:=by simpa using e1
   omega
 have e2':1<a.size:=by
   have:1≠a.size:=by simpa using e2
   omega
 refine wpS_bind (wpS_get ?_);refine wpS_bind (wpS_mono (wpS_forRange (I:=fun x c st'=>c.1=none∧MS L st a b c.2.1 c.2.2.1 c.2.2.2.1 st'∧x+1≤c.2.1.size) (Q:=fun c st'=>∃ o,c.1=some o∧Sm st st'∧Mrg L a.toList b.toList o.toList) ?step ?fin ?init) ?post)
 case init=>exact ⟨rfl,⟨Sm.refl _,ini,e2',e1'⟩,by simp⟩
 case fin =>
   rintro ⟨c1,out,ia,ib,g⟩ st' ⟨_,ms,hs⟩;dsimp only at *;have:=ms.mi.size;have:=ms.ha;have:=ms.hb;omega
 case post =>
   rintro ⟨c1,out,ia,ib,g⟩ st' ⟨o,rfl,sm,m⟩;exact wpS_pure (h _ _ sm m)
 case step =>
   rintro x ⟨c1,out,ia,ib,g⟩ st' _ hx ⟨rfl,ms,hs⟩;dsimp only at *;refine wpS_bind (wpS_mono (wpS_forRange (I:=fun _ c st'=>c.1=none∧MS L st a b c.2.1 c.2.2.1 c.2.2.2.1 st'∧x+1≤c.2.1.size)
     (Q:=fun c st'=>(∃ o,c.1=some o∧Sm st st'∧Mrg L a.toList b.toList o.toList)∨(c.1=none∧MS L st a b c.2.1 c.2.2.1 c.2.2.2.1 st'∧x+1≤c.2.1.size)) ?step1 (fun _ _ z=>.inr z) ?init1) ?post1)
   case init1=>exact ⟨rfl,ms,hs⟩
   case step1 =>
     rintro y ⟨c1,out,ia,ib,ac,bc⟩ st' _ hy ⟨rfl,ms,hs⟩;dsimp only at *;have hib:=ms.hb;have hia:ia<a.size:=by have:=ms.ha;omega
     refine wpS_bind (Zak (getElem?_pos b ib hib) ?_);refine wpS_bind (Zak (getElem?_pos a ia hia) ?_);refine wpS_bind (C.lt _ _ _ _ (sb _ (Zan hib)) (sa _ (Zan hia)) (ms.sm.kind.trans hk) ?_);dsimp only;cases e:L b[ib] a[ia] with
     | true =>
       rw [if_pos rfl];refine wpS_bind (Zak (getElem?_pos b ib hib) ?_);have m2:=ms.mi.pushB O sa sb ra rb hia hib (C.asym _ _ e);by_cases z:(ib+1==b.size)=true
       · rw [if_pos z]
         exact wpS_pure (.inl ⟨_,rfl,ms.sm,m2.finA ra (by simpa using z)⟩)
       · rw [if_neg z]
         have z':ib+1<b.size:=by
           have:ib+1≠b.size:=by simpa using z
           omega
         split
         · exact wpS_pure (.inr ⟨rfl,⟨ms.sm,m2,ms.ha,z'⟩,by simp;omega⟩)
         · exact wpS_pure ⟨rfl,⟨ms.sm,m2,ms.ha,z'⟩,by simp;omega⟩
     | false =>
       rw [if_neg (by decide)];refine wpS_bind (Zak (getElem?_pos a ia hia) ?_);have m2:=ms.mi.pushA O sa sb ra rb hia hib e;by_cases z:(ia+1+1==a.size)=true
       · rw [if_pos z]
         exact wpS_pure (.inl ⟨_,rfl,ms.sm,m2.finL ra rb (by simpa using z) hl⟩)
       · rw [if_neg z]
         have z':ia+1+1<a.size:=by
           have:ia+1+1≠a.size:=by simpa using z
           have:=ms.ha;omega
         split
         · exact wpS_pure (.inr ⟨rfl,⟨ms.sm,m2,z',hib⟩,by simp;omega⟩)
         · exact wpS_pure ⟨rfl,⟨ms.sm,m2,z',hib⟩,by simp;omega⟩
   case post1 =>
     rintro ⟨c1,out,ia,ib,ac,bc⟩ st' (⟨o,rfl,sm,m⟩ | ⟨rfl,ms,hs⟩)
     · exact wpS_pure ⟨o,rfl,sm,m⟩
     · dsimp only at *
       refine wpS_bind (wpS_lift (wpAny_rule ⟨rfl,?_⟩));refine wpS_bind (wpS_mono (wpS_forRange (I:=fun y c st'=>c.1=none∧MS L st a b c.2.1 c.2.2.1 c.2.2.2.1 st'∧x+1+y≤c.2.1.size)
         (Q:=fun c st'=>(∃ o,c.1=some o∧Sm st st'∧Mrg L a.toList b.toList o.toList)∨(c.1=none∧MS L st a b c.2.1 c.2.2.1 c.2.2.2.1 st'∧x+2≤c.2.1.size)) ?step2 ?fin2 ?init2) ?post2)
       case init2=>exact ⟨rfl,ms,hs⟩
       case fin2 =>
         rintro ⟨c1,out,ia,ib,g,ac,bc⟩ st' ⟨e,ms,hs⟩;refine .inr ⟨e,ms,?_⟩;dsimp only at *;omega
       case post2 =>
         rintro ⟨c1,out,ia,ib,g,ac,bc⟩ st' (⟨o,rfl,sm,m⟩ | ⟨rfl,ms,hs⟩)
         · exact wpS_pure ⟨o,rfl,sm,m⟩
         · dsimp only at *
           exact wpS_bind (ZaM (wpS_pure ⟨rfl,⟨ms.sm.gal _,ms.mi,ms.ha,ms.hb⟩,by dsimp only;omega⟩))
       case step2 =>
         rintro y ⟨c1,out,ia,ib,g,ac,bc⟩ st' _ hy ⟨e3,ms,hs⟩;dsimp only at e3 ms hs ⊢;subst e3;have hib:=ms.hb;have hia:=ms.ha;have mz:=ms.mi.size;by_cases gz:g > 1
         · rw [if_pos gz]
           refine wpS_bind (ZaM ?_);refine wpS_bind (Zak (getElem?_pos b ib hib) ?_);refine wpS_bind (Zaz C (ms.sm.kind.trans hk) (sb _ (Zan hib)) sa (by omega) (by omega) (ZcD O sa ra (sb _ (Zan hib)) (by omega)) fun k1 hk1 ht1 hf1=>?_);dsimp only;by_cases kz1:k1 > 0
           · rw [if_pos kz1]
             have m1:=ms.mi.extA (k:=k1) O sa sb ra rb hib (by omega) ht1;by_cases z1:(ia+k1+1==a.size)=true
             · rw [if_pos z1]
               exact wpS_pure (.inl ⟨_,rfl,ms.sm.gal _,m1.finL ra rb (by simpa using z1) hl⟩)
             rw [if_neg z1];by_cases z2:(ia+k1==a.size)=true
             · rw [if_pos z2]
               exact wpS_pure (.inl ⟨_,rfl,ms.sm.gal _,m1.finB rb (by simpa using z2)⟩)
             rw [if_neg z2];have z2':ia+k1+1<a.size:=by
               have:ia+k1+1≠a.size:=by simpa using z1
               have:ia+k1≠a.size:=by simpa using z2
               omega
             have nx:=hf1 k1 (Nat.le_refl _) (by omega);rw [pb_f (by omega)] at nx;have nx:L b[ib] (a[ia+k1]'(by omega))=true:=by simpa using nx
             have m1s:=m1.size;refine wpS_bind (Zak (getElem?_pos b ib hib) ?_);have m2:=m1.pushB O sa sb ra rb (by omega) hib (C.asym _ _ nx);by_cases z3:(ib+1==b.size)=true
             · rw [if_pos z3]
               exact wpS_pure (.inl ⟨_,rfl,ms.sm.gal _,m2.finA ra (by simpa using z3)⟩)
             rw [if_neg z3];have z3':ib+1<b.size:=by
               have:ib+1≠b.size:=by simpa using z3
               omega
             refine wpS_bind (Zak (getElem?_pos a (ia+k1) (by omega)) ?_);refine wpS_bind (Zaz C (ms.sm.kind.trans hk) (sa _ (Zan (by omega))) sb (by omega) (by omega) (Za9 O sb rb (sa _ (Zan (by omega))) (by omega)) fun k2 hk2 ht2 hf2=>?_);dsimp only;by_cases kz:k2 > 0
             · rw [if_pos kz]
               have m3:=m2.extB (k:=k2) O sa sb ra rb (by omega) (by omega) ht2;by_cases z4:(ib+1+k2==b.size)=true
               · rw [if_pos z4]
                 exact wpS_pure (.inl ⟨_,rfl,ms.sm.gal _,m3.finA ra (by simpa using z4)⟩)
               rw [if_neg z4];have z4':ib+1+k2<b.size:=by
                 have:ib+1+k2≠b.size:=by simpa using z4
                 omega
               have nx2:=hf2 k2 (Nat.le_refl _) (by omega);rw [pb_t z4'] at nx2;refine wpS_bind (Zak (getElem?_pos a (ia+k1) (by omega)) ?_);have m4:=m3.pushA O sa sb ra rb (by omega) z4' nx2;by_cases z5:((ia+k1)+1+1==a.size)=true
               · rw [if_pos z5]
                 exact wpS_pure (.inl ⟨_,rfl,ms.sm.gal _,m4.finL ra rb (by simpa using z5) hl⟩)
               rw [if_neg z5];have z5':(ia+k1)+1+1<a.size:=by
                 have:(ia+k1)+1+1≠a.size:=by simpa using z5
                 omega
               have m5:=m4.size;split
               · exact wpS_pure (.inr ⟨rfl,⟨ms.sm.gal _,m4,z5',z4'⟩,by dsimp only;omega⟩)
               · exact wpS_pure ⟨rfl,⟨ms.sm.gal _,m4,z5',z4'⟩,by dsimp only;omega⟩
             · rw [if_neg kz]
               have nx2:=hf2 0 (by omega) (by omega);rw [pb_t (by omega)] at nx2;refine wpS_bind (Zak (getElem?_pos a (ia+k1) (by omega)) ?_);have m4:=m2.pushA O sa sb ra rb (by omega) z3' nx2;by_cases z5:((ia+k1)+1+1==a.size)=true
               · rw [if_pos z5]
                 exact wpS_pure (.inl ⟨_,rfl,ms.sm.gal _,m4.finL ra rb (by simpa using z5) hl⟩)
               rw [if_neg z5];have z5':(ia+k1)+1+1<a.size:=by
                 have:(ia+k1)+1+1≠a.size:=by simpa using z5
                 omega
               have m5:=m4.size;split
               · exact wpS_pure (.inr ⟨rfl,⟨ms.sm.gal _,m4,z5',z3'⟩,by dsimp only;omega⟩)
               · exact wpS_pure ⟨rfl,⟨ms.sm.gal _,m4,z5',z3'⟩,by dsimp only;omega⟩
           · rw [if_neg kz1]
             have nx:=hf1 0 (by omega) (by omega);rw [pb_f (by omega)] at nx;have nx:L b[ib] (a[ia]'(by omega))=true:=by simpa using nx
             have m1:=ms.mi;have m1s:=m1.size;refine wpS_bind (Zak (getElem?_pos b ib hib) ?_);have m2:=m1.pushB O sa sb ra rb (by omega) hib (C.asym _ _ nx);by_cases z3:(ib+1==b.size)=true
             · rw [if_pos z3]
               exact wpS_pure (.inl ⟨_,rfl,ms.sm.gal _,m2.finA ra (by simpa using z3)⟩)
             rw [if_neg z3];have z3':ib+1<b.size:=by
               have:ib+1≠b.size:=by simpa using z3
               omega
             refine wpS_bind (Zak (getElem?_pos a ia (by omega)) ?_);refine wpS_bind (Zaz C (ms.sm.kind.trans hk) (sa _ (Zan (by omega))) sb (by omega) (by omega) (Za9 O sb rb (sa _ (Zan (by omega))) (by omega)) fun k2 hk2 ht2 hf2=>?_);dsimp only;by_cases kz:k2 > 0
             · rw [if_pos kz]
               have m3:=m2.extB (k:=k2) O sa sb ra rb (by omega) (by omega) ht2;by_cases z4:(ib+1+k2==b.size)=true
               · rw [if_pos z4]
                 exact wpS_pure (.inl ⟨_,rfl,ms.sm.gal _,m3.finA ra (by simpa using z4)⟩)
               rw [if_neg z4];have z4':ib+1+k2<b.size:=by
                 have:ib+1+k2≠b.size:=by simpa using z4
                 omega
               have nx2:=hf2 k2 (Nat.le_refl _) (by omega);rw [pb_t z4'] at nx2;refine wpS_bind (Zak (getElem?_pos a ia (by omega)) ?_);have m4:=m3.pushA O sa sb ra rb (by omega) z4' nx2;by_cases z5:(ia+1+1==a.size)=true
               · rw [if_pos z5]
                 exact wpS_pure (.inl ⟨_,rfl,ms.sm.gal _,m4.finL ra rb (by simpa using z5) hl⟩)
               rw [if_neg z5];have z5':ia+1+1<a.size:=by
                 have:ia+1+1≠a.size:=by simpa using z5
                 omega
               have m5:=m4.size;split
               · exact wpS_pure (.inr ⟨rfl,⟨ms.sm.gal _,m4,z5',z4'⟩,by dsimp only;omega⟩)
               · exact wpS_pure ⟨rfl,⟨ms.sm.gal _,m4,z5',z4'⟩,by dsimp only;omega⟩
             · rw [if_neg kz]
               have nx2:=hf2 0 (by omega) (by omega);rw [pb_t (by omega)] at nx2;refine wpS_bind (Zak (getElem?_pos a ia (by omega)) ?_);have m4:=m2.pushA O sa sb ra rb (by omega) z3' nx2;by_cases z5:(ia+1+1==a.size)=true
               · rw [if_pos z5]
                 exact wpS_pure (.inl ⟨_,rfl,ms.sm.gal _,m4.finL ra rb (by simpa using z5) hl⟩)
               rw [if_neg z5];have z5':ia+1+1<a.size:=by
                 have:ia+1+1≠a.size:=by simpa using z5
                 omega
               have m5:=m4.size;split
               · exact wpS_pure (.inr ⟨rfl,⟨ms.sm.gal _,m4,z5',z3'⟩,by dsimp only;omega⟩)
               · exact wpS_pure ⟨rfl,⟨ms.sm.gal _,m4,z5',z3'⟩,by dsimp only;omega⟩
         · rw [if_neg gz]
           refine wpS_bind (ZaM ?_);refine wpS_bind (Zak (getElem?_pos b ib hib) ?_);refine wpS_bind (Zaz C (ms.sm.kind.trans hk) (sb _ (Zan hib)) sa (by omega) (by omega) (ZcD O sa ra (sb _ (Zan hib)) (by omega)) fun k1 hk1 ht1 hf1=>?_);dsimp only;by_cases kz1:k1 > 0
           · rw [if_pos kz1]
             have m1:=ms.mi.extA (k:=k1) O sa sb ra rb hib (by omega) ht1;by_cases z1:(ia+k1+1==a.size)=true
             · rw [if_pos z1]
               exact wpS_pure (.inl ⟨_,rfl,ms.sm.gal _,m1.finL ra rb (by simpa using z1) hl⟩)
             rw [if_neg z1];by_cases z2:(ia+k1==a.size)=true
             · rw [if_pos z2]
               exact wpS_pure (.inl ⟨_,rfl,ms.sm.gal _,m1.finB rb (by simpa using z2)⟩)
             rw [if_neg z2];have z2':ia+k1+1<a.size:=by
               have:ia+k1+1≠a.size:=by simpa using z1
               have:ia+k1≠a.size:=by simpa using z2
               omega
             have nx:=hf1 k1 (Nat.le_refl _) (by omega);rw [pb_f (by omega)] at nx;have nx:L b[ib] (a[ia+k1]'(by omega))=true:=by simpa using nx
             have m1s:=m1.size;refine wpS_bind (Zak (getElem?_pos b ib hib) ?_);have m2:=m1.pushB O sa sb ra rb (by omega) hib (C.asym _ _ nx);by_cases z3:(ib+1==b.size)=true
             · rw [if_pos z3]
               exact wpS_pure (.inl ⟨_,rfl,ms.sm.gal _,m2.finA ra (by simpa using z3)⟩)
             rw [if_neg z3];have z3':ib+1<b.size:=by
               have:ib+1≠b.size:=by simpa using z3
               omega
             refine wpS_bind (Zak (getElem?_pos a (ia+k1) (by omega)) ?_);refine wpS_bind (Zaz C (ms.sm.kind.trans hk) (sa _ (Zan (by omega))) sb (by omega) (by omega) (Za9 O sb rb (sa _ (Zan (by omega))) (by omega)) fun k2 hk2 ht2 hf2=>?_);dsimp only;by_cases kz:k2 > 0
             · rw [if_pos kz]
               have m3:=m2.extB (k:=k2) O sa sb ra rb (by omega) (by omega) ht2;by_cases z4:(ib+1+k2==b.size)=true
               · rw [if_pos z4]
                 exact wpS_pure (.inl ⟨_,rfl,ms.sm.gal _,m3.finA ra (by simpa using z4)⟩)
               rw [if_neg z4];have z4':ib+1+k2<b.size:=by
                 have:ib+1+k2≠b.size:=by simpa using z4
                 omega
               have nx2:=hf2 k2 (Nat.le_refl _) (by omega);rw [pb_t z4'] at nx2;refine wpS_bind (Zak (getElem?_pos a (ia+k1) (by omega)) ?_);have m4:=m3.pushA O sa sb ra rb (by omega) z4' nx2;by_cases z5:((ia+k1)+1+1==a.size)=true
               · rw [if_pos z5]
                 exact wpS_pure (.inl ⟨_,rfl,ms.sm.gal _,m4.finL ra rb (by simpa using z5) hl⟩)
               rw [if_neg z5];have z5':(ia+k1)+1+1<a.size:=by
                 have:(ia+k1)+1+1≠a.size:=by simpa using z5
                 omega
               have m5:=m4.size;split
               · exact wpS_pure (.inr ⟨rfl,⟨ms.sm.gal _,m4,z5',z4'⟩,by dsimp only;omega⟩)
               · exact wpS_pure ⟨rfl,⟨ms.sm.gal _,m4,z5',z4'⟩,by dsimp only;omega⟩
             · rw [if_neg kz]
               have nx2:=hf2 0 (by omega) (by omega);rw [pb_t (by omega)] at nx2;refine wpS_bind (Zak (getElem?_pos a (ia+k1) (by omega)) ?_);have m4:=m2.pushA O sa sb ra rb (by omega) z3' nx2;by_cases z5:((ia+k1)+1+1==a.size)=true
               · rw [if_pos z5]
                 exact wpS_pure (.inl ⟨_,rfl,ms.sm.gal _,m4.finL ra rb (by simpa using z5) hl⟩)
               rw [if_neg z5];have z5':(ia+k1)+1+1<a.size:=by
                 have:(ia+k1)+1+1≠a.size:=by simpa using z5
                 omega
               have m5:=m4.size;split
               · exact wpS_pure (.inr ⟨rfl,⟨ms.sm.gal _,m4,z5',z3'⟩,by dsimp only;omega⟩)
               · exact wpS_pure ⟨rfl,⟨ms.sm.gal _,m4,z5',z3'⟩,by dsimp only;omega⟩
           · rw [if_neg kz1]
             have nx:=hf1 0 (by omega) (by omega);rw [pb_f (by omega)] at nx;have nx:L b[ib] (a[ia]'(by omega))=true:=by simpa using nx
             have m1:=ms.mi;have m1s:=m1.size;refine wpS_bind (Zak (getElem?_pos b ib hib) ?_);have m2:=m1.pushB O sa sb ra rb (by omega) hib (C.asym _ _ nx);by_cases z3:(ib+1==b.size)=true
             · rw [if_pos z3]
               exact wpS_pure (.inl ⟨_,rfl,ms.sm.gal _,m2.finA ra (by simpa using z3)⟩)
             rw [if_neg z3];have z3':ib+1<b.size:=by
               have:ib+1≠b.size:=by simpa using z3
               omega
             refine wpS_bind (Zak (getElem?_pos a ia (by omega)) ?_);refine wpS_bind (Zaz C (ms.sm.kind.trans hk) (sa _ (Zan (by omega))) sb (by omega) (by omega) (Za9 O sb rb (sa _ (Zan (by omega))) (by omega)) fun k2 hk2 ht2 hf2=>?_);dsimp only;by_cases kz:k2 > 0
             · rw [if_pos kz]
               have m3:=m2.extB (k:=k2) O sa sb ra rb (by omega) (by omega) ht2;by_cases z4:(ib+1+k2==b.size)=true
               · rw [if_pos z4]
                 exact wpS_pure (.inl ⟨_,rfl,ms.sm.gal _,m3.finA ra (by simpa using z4)⟩)
               rw [if_neg z4];have z4':ib+1+k2<b.size:=by
                 have:ib+1+k2≠b.size:=by simpa using z4
                 omega
               have nx2:=hf2 k2 (Nat.le_refl _) (by omega);rw [pb_t z4'] at nx2;refine wpS_bind (Zak (getElem?_pos a ia (by omega)) ?_);have m4:=m3.pushA O sa sb ra rb (by omega) z4' nx2;by_cases z5:(ia+1+1==a.size)=true
               · rw [if_pos z5]
                 exact wpS_pure (.inl ⟨_,rfl,ms.sm.gal _,m4.finL ra rb (by simpa using z5) hl⟩)
               rw [if_neg z5];have z5':ia+1+1<a.size:=by
                 have:ia+1+1≠a.size:=by simpa using z5
                 omega
               have m5:=m4.size;split
               · exact wpS_pure (.inr ⟨rfl,⟨ms.sm.gal _,m4,z5',z4'⟩,by dsimp only;omega⟩)
               · exact wpS_pure ⟨rfl,⟨ms.sm.gal _,m4,z5',z4'⟩,by dsimp only;omega⟩
             · rw [if_neg kz]
               have nx2:=hf2 0 (by omega) (by omega);rw [pb_t (by omega)] at nx2;refine wpS_bind (Zak (getElem?_pos a ia (by omega)) ?_);have m4:=m2.pushA O sa sb ra rb (by omega) z3' nx2;by_cases z5:(ia+1+1==a.size)=true
               · rw [if_pos z5]
                 exact wpS_pure (.inl ⟨_,rfl,ms.sm.gal _,m4.finL ra rb (by simpa using z5) hl⟩)
               rw [if_neg z5];have z5':ia+1+1<a.size:=by
                 have:ia+1+1≠a.size:=by simpa using z5
                 omega
               have m5:=m4.size;split
               · exact wpS_pure (.inr ⟨rfl,⟨ms.sm.gal _,m4,z5',z3'⟩,by dsimp only;omega⟩)
               · exact wpS_pure ⟨rfl,⟨ms.sm.gal _,m4,z5',z3'⟩,by dsimp only;omega⟩
end
end Srt
namespace Srt
open PySem PyProof.Rows
section
variable {S:Keyed→Prop}{L:Keyed→Keyed→Bool}
structure MH (L:Keyed→Keyed→Bool)(al bl ol:List Keyed)(na nb:Nat):Prop where
 perm:ol.Perm (al.drop na++bl.drop nb)
 rise:Rise L ol
 lea:∀ x∈ol,∀ y∈al.take na,L x y=false
 leb:∀ x∈ol,∀ y∈bl.take nb,L x y=false
 ha:na≤al.length
 hb:nb≤bl.length
theorem MH.len {al bl ol:List Keyed}{na nb:Nat}(h:MH L al bl ol na nb):ol.length+na+nb=al.length+bl.length:=by rw [h.perm.length_eq,List.length_append,List.length_drop,List.length_drop];have:=h.ha;have:=h.hb;omega
theorem Zhn {α:Type}{l:List α}{i n:Nat}{y:α}(hi:i≤n)(h:y∈l.take i):y∈l.take n:=by
 have:l.take i=(l.take n).take i:=by rw [List.take_take,Nat.min_eq_left hi]
 rw [this] at h;exact List.mem_of_mem_take h
theorem Zg1 {α:Type}(l:List α){i n:Nat}(h:i≤n):l.drop i=(l.take n).drop i++l.drop n:=by
 rw [List.drop_take];have:l.drop n=(l.drop i).drop (n-i):=by rw [List.drop_drop];congr 1;omega
 rw [this,List.take_append_drop]
theorem Zcj {l:List Keyed}(h:Rise L l){i n:Nat}(hi:i≤n):∀ x∈(l.take n).drop i,∀ y∈l.take i,L x y=false:=by intro x hx y hy;have h2:Rise L (l.take n):=h.sublist (List.take_sublist _ _);rw [← List.take_append_drop i (l.take n)] at h2;rw [show l.take i=(l.take n).take i by rw [List.take_take,Nat.min_eq_left hi]] at hy;exact (List.pairwise_append.mp h2).2.2 y hy x hx
theorem MH.takeA {al bl ol:List Keyed}{na nb:Nat}(h:MH L al bl ol na nb)(ra:Rise L al)(i:Nat)(hi:i≤na)(c:∀ y∈(al.take na).drop i,∀ z∈bl.take nb,L y z=false):MH L al bl ((al.take na).drop i++ol) i nb where
 perm:=by rw [Zg1 al hi,List.append_assoc];exact List.Perm.append_left _ h.perm
 rise:=List.pairwise_append.mpr ⟨(ra.sublist (List.take_sublist _ _)).sublist (List.drop_sublist _ _),h.rise,fun x hx y hy=>h.lea y hy x (List.mem_of_mem_drop hx)⟩
 lea:=fun x hx y hy=>by
   rcases List.mem_append.mp hx with z | z
   · exact Zcj ra hi x z y hy
   · exact h.lea x z y (Zhn hi hy)
 leb:=fun x hx y hy=>by
   rcases List.mem_append.mp hx with z | z
   · exact c x z y hy
   · exact h.leb x z y hy
 ha:=Nat.le_trans hi h.ha
 hb:=h.hb
theorem MH.takeB {al bl ol:List Keyed}{na nb:Nat}(h:MH L al bl ol na nb)(rb:Rise L bl)(i:Nat)(hi:i≤nb)(c:∀ y∈(bl.take nb).drop i,∀ z∈al.take na,L y z=false):MH L al bl ((bl.take nb).drop i++ol) na i where
 perm:=by rw [Zg1 bl hi];refine (List.Perm.append_left _ h.perm).trans ?_;rw [← List.append_assoc,← List.append_assoc];exact List.Perm.append_right _ List.perm_append_comm
 rise:=List.pairwise_append.mpr ⟨(rb.sublist (List.take_sublist _ _)).sublist (List.drop_sublist _ _),h.rise,fun x hx y hy=>h.leb y hy x (List.mem_of_mem_drop hx)⟩
 lea:=fun x hx y hy=>by
   rcases List.mem_append.mp hx with z | z
   · exact c x z y hy
   · exact h.lea x z y hy
 leb:=fun x hx y hy=>by
   rcases List.mem_append.mp hx with z | z
   · exact Zcj rb hi x z y hy
   · exact h.leb x z y (Zhn hi hy)
 ha:=h.ha
 hb:=Nat.le_trans hi h.hb
theorem MH.doneB {al bl ol:List Keyed}{nb:Nat}(h:MH L al bl ol 0 nb)(rb:Rise L bl):Mrg L al bl (bl.take nb++ol):=by
 constructor
 · refine (List.Perm.append_left _ h.perm).trans ?_
   rw [List.drop_zero];refine (List.Perm.append_left _ List.perm_append_comm).trans ?_;rw [← List.append_assoc,List.take_append_drop];exact List.perm_append_comm
 · exact List.pairwise_append.mpr ⟨rb.sublist (List.take_sublist _ _),h.rise,fun x hx y hy=>h.leb y hy x hx⟩
theorem MH.doneA {al bl ol:List Keyed}{na:Nat}(h:MH L al bl ol na 0)(ra:Rise L al):Mrg L al bl (al.take na++ol):=by
 constructor
 · refine (List.Perm.append_left _ h.perm).trans ?_
   rw [List.drop_zero,← List.append_assoc,List.take_append_drop]
 · exact List.pairwise_append.mpr ⟨ra.sublist (List.take_sublist _ _),h.rise,fun x hx y hy=>h.lea y hy x hx⟩
theorem MH.firstB {al bl ol:List Keyed}{na nb:Nat}(h:MH L al bl ol na nb)(ra:Rise L al)(rb:Rise L bl)(c:∀ y∈bl.take nb,∀ z∈al.take na,L z y=false):Mrg L al bl (bl.take nb++al.take na++ol):=by
 constructor
 · refine (List.Perm.append_left _ h.perm).trans ?_
   have e:bl.take nb++al.take na++(al.drop na++bl.drop nb)=bl.take nb++(al++bl.drop nb):=by rw [List.append_assoc,← List.append_assoc (al.take na),List.take_append_drop]
   rw [e];refine (List.Perm.append_left _ List.perm_append_comm).trans ?_;rw [← List.append_assoc,List.take_append_drop];exact List.perm_append_comm
 · refine List.pairwise_append.mpr ⟨List.pairwise_append.mpr ⟨rb.sublist (List.take_sublist _ _),ra.sublist (List.take_sublist _ _),c⟩,h.rise,fun x hx y hy=>?_⟩
   rcases List.mem_append.mp hx with z | z
   · exact h.leb y hy x z
   · exact h.lea y hy x z
variable {a b out:Array Keyed}{na nb k:Nat}
theorem ZgP {a:Array Keyed}{i:Nat}(h:i<a.size):(a.toList.take (i+1)).drop i=[a[i]]:=by rw [List.drop_take,ZbI h,show i+1-i=1 by omega];rfl
theorem Zkx {a:Array Keyed}{n:Nat}{x:Keyed}(h:x∈a.toList.take n):∃ j,j<n∧∃ q:j<a.size,x=a[j]:=by have:=Zbt (a:=a) (i:=0) (k:=n) (x:=x) (by simpa using h);obtain ⟨j,hj,q,e⟩:=this;exact ⟨j,hj,by omega,by simpa using e⟩
theorem get_le {a:Array Keyed}(ra:Rise L a.toList)(O:Ord S L){i j:Nat}(hij:i≤j)(hj:j<a.size)(ir:L a[j] a[j]=false):L a[j] (a[i]'(by omega))=false:=by
 rcases Nat.lt_or_ge i j with q | q
 · exact Zec ra (i:=i) (by omega) a[j] (List.mem_iff_getElem.mpr ⟨j-i-1,by simp;omega,by simp;congr 1;omega⟩)
 · have:i=j:=by omega
   subst this;exact ir
theorem Ord.irr (O:Ord S L)(x:Keyed):L x x=false:=by
 cases e:L x x with
 | false=>rfl
 | true=>rw [O.asym x x e] at e;cases e
theorem Zgj (O:Ord S L)(sa:∀ x∈a.toList,S x)(ra:Rise L a.toList){n:Nat}(hn:n<a.size){y:Keyed}(sy:S y)(c:L y a[n]=false):∀ z∈a.toList.take (n+1),L y z=false:=by intro z hz;obtain ⟨j,hj,q,rfl⟩:=Zkx hz;exact O.step (sa _ (Zan q)) (sa _ (Zan hn)) sy c (get_le ra O (by omega) hn (O.irr _))
theorem Zg6 (out:Array Keyed)(x:Keyed):(out.push x).reverse.toList=x::out.reverse.toList:=by simp
theorem ZiW (out p:Array Keyed):(out++p.reverse).reverse.toList=p.toList++out.reverse.toList:=by simp
theorem MH.pushA (O:Ord S L)(m:MH L a.toList b.toList out.reverse.toList (na+1) (nb+1))(sa:∀ x∈a.toList,S x)(sb:∀ x∈b.toList,S x)(ra:Rise L a.toList)(rb:Rise L b.toList)(hna:na<a.size)(hnb:nb<b.size)(c:L a[na] b[nb]=false) :
   MH L a.toList b.toList (out.push a[na]).reverse.toList na (nb+1):=by
 have e:=ZgP hna;have:=m.takeA ra na (Nat.le_succ _) (by
   rw [e];intro y hy z hz;have hy:y=a[na]:=by simpa using hy
   subst hy;exact Zgj O sb rb hnb (sa _ (Zan hna)) c z hz)
 rw [e] at this;rw [Zg6];exact this
theorem MH.pushB (O:Ord S L)(m:MH L a.toList b.toList out.reverse.toList (na+1) (nb+1))(sa:∀ x∈a.toList,S x)(sb:∀ x∈b.toList,S x)(ra:Rise L a.toList)(rb:Rise L b.toList)(hna:na<a.size)(hnb:nb<b.size)(c:L b[nb] a[na]=false) :
   MH L a.toList b.toList (out.push b[nb]).reverse.toList (na+1) nb:=by
 have e:=ZgP hnb;have:=m.takeB rb nb (Nat.le_succ _) (by
   rw [e];intro y hy z hz;have hy:y=b[nb]:=by simpa using hy
   subst hy;exact Zgj O sa ra hna (sb _ (Zan hnb)) c z hz)
 rw [e] at this;rw [Zg6];exact this
theorem ZcF (a:Array Keyed){i n:Nat}(h:i≤n):(a.extract i n).toList=(a.toList.take n).drop i:=by simp only [Array.toList_extract,List.extract_eq_take_drop,List.drop_take]
theorem Zfl {a:Array Keyed}{i n:Nat}{x:Keyed}(h:x∈(a.toList.take n).drop i):∃ j,i≤j∧j<n∧∃ q:j<a.size,x=a[j]:=by rw [List.drop_take] at h;obtain ⟨j,hj,q,e⟩:=Zbt h;exact ⟨i+j,by omega,by omega,q,e⟩
theorem MH.extA (O:Ord S L)(m:MH L a.toList b.toList out.reverse.toList na (nb+1))(sa:∀ x∈a.toList,S x)(sb:∀ x∈b.toList,S x)(ra:Rise L a.toList)(rb:Rise L b.toList)(hnb:nb<b.size)(hk:k≤na)(c:∀ i,k≤i→i<na→pb L false b[nb] a 0 i=false) :
   MH L a.toList b.toList (out++(a.extract k na).reverse).reverse.toList k (nb+1):=by
 rw [ZiW,ZcF a hk];refine m.takeA ra k hk fun y hy z hz=>?_
 obtain ⟨j,hj,hj2,q,rfl⟩:=Zfl hy;have:=c j hj hj2;rw [pb_f (by omega)] at this;have this:L b[nb] a[j]=true:=by simpa using this
 exact Zgj O sb rb hnb (sa _ (Zan q)) (O.asym _ _ this) z hz
theorem MH.extB (O:Ord S L)(m:MH L a.toList b.toList out.reverse.toList (na+1) nb)(sa:∀ x∈a.toList,S x)(sb:∀ x∈b.toList,S x)(ra:Rise L a.toList)(rb:Rise L b.toList)(hna:na<a.size)(hk:k≤nb)(c:∀ i,k≤i→i<nb→pb L true a[na] b 0 i=false) :
   MH L a.toList b.toList (out++(b.extract k nb).reverse).reverse.toList (na+1) k:=by
 rw [ZiW,ZcF b hk];refine m.takeB rb k hk fun y hy z hz=>?_
 obtain ⟨j,hj,hj2,q,rfl⟩:=Zfl hy;have:=c j hj hj2;rw [pb_t (by omega)] at this;have this:L b[j] a[na]=false:=by simpa using this
 exact Zgj O sa ra hna (sb _ (Zan q)) this z hz
theorem ext0 (a:Array Keyed)(n:Nat):(a.extract 0 n).toList=a.toList.take n:=by rw [ZcF a (Nat.zero_le n),List.drop_zero]
theorem MH.fin0 (m:MH L a.toList b.toList out.reverse.toList na nb)(rb:Rise L b.toList)(e:na=0):Mrg L a.toList b.toList (a.extract 0 na++b.extract 0 nb++out.reverse).toList:=by subst e;rw [Array.toList_append,Array.toList_append,ext0,ext0,List.take_zero,List.nil_append];exact m.doneB rb
theorem MH.fin0b (m:MH L a.toList b.toList out.reverse.toList na nb)(ra:Rise L a.toList)(e:nb=0):Mrg L a.toList b.toList (a.extract 0 na++b.extract 0 nb++out.reverse).toList:=by subst e;rw [Array.toList_append,Array.toList_append,ext0,ext0,List.take_zero,List.append_nil];exact m.doneA ra
theorem MH.fin1 (m:MH L a.toList b.toList out.reverse.toList na nb)(ra:Rise L a.toList)(rb:Rise L b.toList)(e:nb=1)(h0:∀ z∈a.toList,∀ y∈b.toList.take 1,L z y=false):Mrg L a.toList b.toList (b.extract 0 nb++a.extract 0 na++out.reverse).toList:=by subst e;rw [Array.toList_append,Array.toList_append,ext0,ext0];exact m.firstB ra rb fun y hy z hz=>h0 z (List.mem_of_mem_take hz) y hy
theorem MH.size (m:MH L a.toList b.toList out.reverse.toList na nb):out.size+na+nb=a.size+b.size:=by have:=m.len;simpa using this
end
def mergeHi':Array Keyed→Array Keyed→StateT SortSt Sem (Array Keyed):=sortPriv% PySem.Builtin.mergeHi
section
variable {M:Model}{A:Around}{E:Value→Shared→Prop}{s:Shared}{kd:SortKind}{S:Keyed→Prop}{L:Keyed→Keyed→Bool}
structure MHS (L:Keyed→Keyed→Bool)(st:SortSt)(a b out:Array Keyed)(na nb:Nat)(st':SortSt):Prop where
 sm:Sm st st'
 mi:MH L a.toList b.toList out.reverse.toList na nb
 ha:0<na
 hb:1<nb
theorem pb0_f {a:Array Keyed}{i:Nat}{key:Keyed}(q:i<a.size):pb L false key a 0 i=!L key a[i]:=by unfold pb;rw [Nat.zero_add,getElem?_pos a i q];rfl
theorem Zd3 {a:Array Keyed}{i:Nat}{key:Keyed}(q:i<a.size):pb L true key a 0 i=L a[i] key:=by unfold pb;rw [Nat.zero_add,getElem?_pos a i q];rfl
variable {a b out:Array Keyed}{na nb k:Nat}
theorem MH.hA (m:MH L a.toList b.toList out.reverse.toList na nb):na≤a.size:=by simpa using m.ha
theorem MH.hB (m:MH L a.toList b.toList out.reverse.toList na nb):nb≤b.size:=by simpa using m.hb
theorem MH.putA (O:Ord S L)(m:MH L a.toList b.toList out.reverse.toList na nb)(sa:∀ x∈a.toList,S x)(sb:∀ x∈b.toList,S x)(ra:Rise L a.toList)(rb:Rise L b.toList)(hna:0<na)(hnb:0<nb)(qa:na-1<a.size)(qb:nb-1<b.size)(c:L a[na-1] b[nb-1]=false) :
   MH L a.toList b.toList (out.push a[na-1]).reverse.toList (na-1) nb:=by
 obtain ⟨i,rfl⟩:∃ i,na=i+1:=⟨na-1,by omega⟩
 obtain ⟨j,rfl⟩:∃ j,nb=j+1:=⟨nb-1,by omega⟩
 exact m.pushA O sa sb ra rb qa qb c
theorem MH.putB (O:Ord S L)(m:MH L a.toList b.toList out.reverse.toList na nb)(sa:∀ x∈a.toList,S x)(sb:∀ x∈b.toList,S x)(ra:Rise L a.toList)(rb:Rise L b.toList)(hna:0<na)(hnb:0<nb)(qa:na-1<a.size)(qb:nb-1<b.size)(c:L b[nb-1] a[na-1]=false) :
   MH L a.toList b.toList (out.push b[nb-1]).reverse.toList na (nb-1):=by
 obtain ⟨i,rfl⟩:∃ i,na=i+1:=⟨na-1,by omega⟩
 obtain ⟨j,rfl⟩:∃ j,nb=j+1:=⟨nb-1,by omega⟩
 exact m.pushB O sa sb ra rb qa qb c
theorem MH.putAs (O:Ord S L)(m:MH L a.toList b.toList out.reverse.toList na nb)(sa:∀ x∈a.toList,S x)(sb:∀ x∈b.toList,S x)(ra:Rise L a.toList)(rb:Rise L b.toList)(hnb:0<nb)(qb:nb-1<b.size)(hk:k≤na)(c:∀ i,k≤i→i<na→pb L false b[nb-1] a 0 i=false) :
   MH L a.toList b.toList (out++(a.extract k na).reverse).reverse.toList k nb:=by
 obtain ⟨j,rfl⟩:∃ j,nb=j+1:=⟨nb-1,by omega⟩
 exact m.extA O sa sb ra rb qb hk c
theorem MH.putBs (O:Ord S L)(m:MH L a.toList b.toList out.reverse.toList na nb)(sa:∀ x∈a.toList,S x)(sb:∀ x∈b.toList,S x)(ra:Rise L a.toList)(rb:Rise L b.toList)(hna:0<na)(qa:na-1<a.size)(hk:k≤nb)(c:∀ i,k≤i→i<nb→pb L true a[na-1] b 0 i=false) :
   MH L a.toList b.toList (out++(b.extract k nb).reverse).reverse.toList na k:=by
 obtain ⟨j,rfl⟩:∃ j,na=j+1:=⟨na-1,by omega⟩
 exact m.extB O sa sb ra rb qa hk c
theorem Zg4 (C:Cmp M A E s kd S L) {a b:Array Keyed} {st:SortSt} {Q:Array Keyed→SortSt→Prop} (hk:kindOf st=kd) (sa:∀ x∈a.toList,S x) (sb:∀ x∈b.toList,S x) (ra:Rise L a.toList) (rb:Rise L b.toList) (na:0<a.size) (nb:0<b.size)
   (h0:∀ z∈a.toList,∀ y∈b.toList.take 1,L z y=false) (hl:∀ y∈b.toList,L (a[a.size-1]'(by omega)) y=false)
   (h:∀ o st',Sm st st'→Mrg L a.toList b.toList o.toList→Q o st'):wpS M A E s (mergeHi' a b) Q st:=by
 have O:=C.ord;unfold mergeHi'
 k_delta "mergeHi"
 refine wpS_bind (wpS_lift (wpAny_rule ⟨rfl,?_⟩));refine wpS_bind (Zak (getElem?_pos a (a.size-1) (by omega)) ?_);dsimp only;have nil:MH L a.toList b.toList (#[]:Array Keyed).reverse.toList a.size b.size:=⟨by simp,.nil,fun _ z=>by simp at z,fun _ z=>by simp at z,by simp,by simp⟩
 have ini:MH L a.toList b.toList (#[a[a.size-1]'(by omega)]:Array Keyed).reverse.toList (a.size-1) b.size:=nil.putA O sa sb ra rb na nb (by omega) (by omega) (hl _ (Zan (by omega)));by_cases e1:(a.size-1==0)=true
 · rw [if_pos e1]
   exact wpS_pure (h _ _ (Sm.refl _) (ini.fin0 rb (by simpa using e1)))
 rw [if_neg e1];by_cases e2:(b.size==1)=true
 · rw [if_pos e2]
   exact wpS_pure (h _ _ (Sm.refl _) (ini.fin1 ra rb (by simpa using e2) h0))
 rw [if_neg e2];have e1':0<a.size-1:=by
   have:a.size-1≠0:=by simpa using e1
   omega
 have e2':1<b.size:=by
   have:b.size≠1:=by simpa using e2
   omega
 refine wpS_bind (wpS_get ?_);refine wpS_bind (wpS_mono (wpS_forRange (I:=fun x c st'=>c.1=none∧MHS L st a b c.2.2.2.1 c.2.1 c.2.2.1 st'∧x+1≤c.2.2.2.1.size) (Q:=fun c st'=>∃ o,c.1=some o∧Sm st st'∧Mrg L a.toList b.toList o.toList) ?step ?fin ?init) ?post)
 case init=>exact ⟨rfl,⟨Sm.refl _,ini,e1',e2'⟩,by simp⟩
 case fin =>
   rintro ⟨c1,na,nb,out,g⟩ st' ⟨_,ms,hs⟩;dsimp only at *;have:=ms.mi.size;have:=ms.ha;have:=ms.hb;omega
 case post =>
   rintro ⟨c1,na,nb,out,g⟩ st' ⟨o,rfl,sm,m⟩;exact wpS_pure (h _ _ sm m)
 case step =>
   rintro x ⟨c1,na,nb,out,g⟩ st' _ hx ⟨rfl,ms,hs⟩;dsimp only at *;refine wpS_bind (wpS_mono (wpS_forRange (I:=fun _ c st'=>c.1=none∧MHS L st a b c.2.2.2.1 c.2.1 c.2.2.1 st'∧x+1≤c.2.2.2.1.size)
     (Q:=fun c st'=>(∃ o,c.1=some o∧Sm st st'∧Mrg L a.toList b.toList o.toList)∨(c.1=none∧MHS L st a b c.2.2.2.1 c.2.1 c.2.2.1 st'∧x+1≤c.2.2.2.1.size)) ?step1 (fun _ _ z=>.inr z) ?init1) ?post1)
   case init1=>exact ⟨rfl,ms,hs⟩
   case step1 =>
     rintro y ⟨c1,na,nb,out,ac,bc⟩ st' _ hy ⟨rfl,ms,hs⟩;dsimp only at *;have hA:=ms.mi.hA;have hB:=ms.mi.hB;have ha:=ms.ha;have hb:=ms.hb;refine wpS_bind (Zak (getElem?_pos b (nb-1) (by omega)) ?_);refine wpS_bind (Zak (getElem?_pos a (na-1) (by omega)) ?_);refine wpS_bind (C.lt _ _ _ _ (sb _ (Zan (by omega))) (sa _ (Zan (by omega))) (ms.sm.kind.trans hk) ?_);dsimp only;cases e:L (b[nb-1]'(by omega)) (a[na-1]'(by omega)) with
     | true =>
       rw [if_pos rfl];refine wpS_bind (Zak (getElem?_pos a (na-1) (by omega)) ?_);have m2:=ms.mi.putA O sa sb ra rb (by omega) (by omega) (by omega) (by omega) (C.asym _ _ e);by_cases z:(na-1==0)=true
       · rw [if_pos z]
         exact wpS_pure (.inl ⟨_,rfl,ms.sm,m2.fin0 rb (by simpa using z)⟩)
       · rw [if_neg z]
         have z':0<na-1:=by
           have:na-1≠0:=by simpa using z
           omega
         split
         · exact wpS_pure (.inr ⟨rfl,⟨ms.sm,m2,z',hb⟩,by simp;omega⟩)
         · exact wpS_pure ⟨rfl,⟨ms.sm,m2,z',hb⟩,by simp;omega⟩
     | false =>
       rw [if_neg (by decide)];refine wpS_bind (Zak (getElem?_pos b (nb-1) (by omega)) ?_);have m2:=ms.mi.putB O sa sb ra rb (by omega) (by omega) (by omega) (by omega) e;by_cases z:(nb-1==1)=true
       · rw [if_pos z]
         exact wpS_pure (.inl ⟨_,rfl,ms.sm,m2.fin1 ra rb (by simpa using z) h0⟩)
       · rw [if_neg z]
         have z':1<nb-1:=by
           have:nb-1≠1:=by simpa using z
           omega
         split
         · exact wpS_pure (.inr ⟨rfl,⟨ms.sm,m2,ha,z'⟩,by simp;omega⟩)
         · exact wpS_pure ⟨rfl,⟨ms.sm,m2,ha,z'⟩,by simp;omega⟩
   case post1 =>
     rintro ⟨c1,na,nb,out,ac,bc⟩ st' (⟨o,rfl,sm,m⟩ | ⟨rfl,ms,hs⟩)
     · exact wpS_pure ⟨o,rfl,sm,m⟩
     · dsimp only at *
       refine wpS_bind (wpS_lift (wpAny_rule ⟨rfl,?_⟩));refine wpS_bind (wpS_mono (wpS_forRange (I:=fun y c st'=>c.1=none∧MHS L st a b c.2.2.2.1 c.2.1 c.2.2.1 st'∧x+1+y≤c.2.2.2.1.size)
         (Q:=fun c st'=>(∃ o,c.1=some o∧Sm st st'∧Mrg L a.toList b.toList o.toList)∨(c.1=none∧MHS L st a b c.2.2.2.1 c.2.1 c.2.2.1 st'∧x+2≤c.2.2.2.1.size)) ?step2 ?fin2 ?init2) ?post2)
       case init2=>exact ⟨rfl,ms,hs⟩
       case fin2 =>
         rintro ⟨c1,na,nb,out,g,ac,bc⟩ st' ⟨e,ms,hs⟩;refine .inr ⟨e,ms,?_⟩;dsimp only at *;omega
       case post2 =>
         rintro ⟨c1,na,nb,out,g,ac,bc⟩ st' (⟨o,rfl,sm,m⟩ | ⟨rfl,ms,hs⟩)
         · exact wpS_pure ⟨o,rfl,sm,m⟩
         · dsimp only at *
           exact wpS_bind (ZaM (wpS_pure ⟨rfl,⟨ms.sm.gal _,ms.mi,ms.ha,ms.hb⟩,by dsimp only;omega⟩))
       case step2 =>
         rintro y ⟨c1,na,nb,out,g,ac,bc⟩ st' _ hy ⟨e3,ms,hs⟩;dsimp only at e3 ms hs ⊢;subst e3;have hA:=ms.mi.hA;have hB:=ms.mi.hB;have ha:=ms.ha;have hb:=ms.hb;have mz:=ms.mi.size;by_cases gz:g > 1
         · rw [if_pos gz]
           refine wpS_bind (ZaM ?_);refine wpS_bind (Zak (getElem?_pos b (nb-1) (by omega)) ?_);refine wpS_bind (Zaz C (ms.sm.kind.trans hk) (sb _ (Zan (by omega))) sa (by omega) (by omega) (ZcD O sa ra (sb _ (Zan (by omega))) (by omega)) fun k1 hk1 ht1 hf1=>?_);dsimp only;by_cases kz1:na-k1 > 0
           · rw [if_pos kz1]
             have m1:=ms.mi.putAs (k:=k1) O sa sb ra rb (by omega) (by omega) hk1 hf1;by_cases z1:(k1==0)=true
             · rw [if_pos z1]
               exact wpS_pure (.inl ⟨_,rfl,ms.sm.gal _,m1.fin0 rb (by simpa using z1)⟩)
             rw [if_neg z1];have z1':0<k1:=by
               have:k1≠0:=by simpa using z1
               omega
             have nx:=ht1 (k1-1) (by omega);rw [pb0_f (by omega)] at nx;have nx:L (b[nb-1]'(by omega)) (a[k1-1]'(by omega))=false:=by simpa using nx
             have m1s:=m1.size;refine wpS_bind (Zak (getElem?_pos b (nb-1) (by omega)) ?_);have m2:=m1.putB O sa sb ra rb (by omega) (by omega) (by omega) (by omega) nx;have m2s:=m2.size;by_cases z3:(nb-1==1)=true
             · rw [if_pos z3]
               exact wpS_pure (.inl ⟨_,rfl,ms.sm.gal _,m2.fin1 ra rb (by simpa using z3) h0⟩)
             rw [if_neg z3];have z3':1<nb-1:=by
               have:nb-1≠1:=by simpa using z3
               omega
             refine wpS_bind (Zak (getElem?_pos a (k1-1) (by omega)) ?_);refine wpS_bind (Zaz C (ms.sm.kind.trans hk) (sa _ (Zan (by omega))) sb (by omega) (by omega) (Za9 O sb rb (sa _ (Zan (by omega))) (by omega)) fun k2 hk2 ht2 hf2=>?_);dsimp only;by_cases kz:nb-1-k2 > 0
             · rw [if_pos kz]
               have m3:=m2.putBs (k:=k2) O sa sb ra rb (by omega) (by omega) hk2 hf2;have m3s:=m3.size;by_cases z4:(k2==1)=true
               · rw [if_pos z4]
                 exact wpS_pure (.inl ⟨_,rfl,ms.sm.gal _,m3.fin1 ra rb (by simpa using z4) h0⟩)
               rw [if_neg z4];by_cases z6:(k2==0)=true
               · rw [if_pos z6]
                 exact wpS_pure (.inl ⟨_,rfl,ms.sm.gal _,m3.fin0b ra (by simpa using z6)⟩)
               rw [if_neg z6];have z4':1<k2:=by
                 have:k2≠1:=by simpa using z4
                 have:k2≠0:=by simpa using z6
                 omega
               have nx2:=ht2 (k2-1) (by omega);rw [Zd3 (by omega)] at nx2;have nx2:=C.asym _ _ nx2;refine wpS_bind (Zak (getElem?_pos a (k1-1) (by omega)) ?_);have m4:=m3.putA O sa sb ra rb (by omega) (by omega) (by omega) (by omega) nx2;have m5:=m4.size;by_cases z5:(k1-1==0)=true
               · rw [if_pos z5]
                 exact wpS_pure (.inl ⟨_,rfl,ms.sm.gal _,m4.fin0 rb (by simpa using z5)⟩)
               rw [if_neg z5];have z5':0<k1-1:=by
                 have:k1-1≠0:=by simpa using z5
                 omega
               split
               · exact wpS_pure (.inr ⟨rfl,⟨ms.sm.gal _,m4,z5',by omega⟩,by dsimp only;omega⟩)
               · exact wpS_pure ⟨rfl,⟨ms.sm.gal _,m4,z5',by omega⟩,by dsimp only;omega⟩
             · rw [if_neg kz]
               have m3:=m2;have nx2:=ht2 (nb-1-1) (by omega);rw [Zd3 (by omega)] at nx2;have nx2:=C.asym _ _ nx2;refine wpS_bind (Zak (getElem?_pos a (k1-1) (by omega)) ?_);have m4:=m3.putA O sa sb ra rb (by omega) (by omega) (by omega) (by omega) nx2;have m5:=m4.size;by_cases z5:(k1-1==0)=true
               · rw [if_pos z5]
                 exact wpS_pure (.inl ⟨_,rfl,ms.sm.gal _,m4.fin0 rb (by simpa using z5)⟩)
               rw [if_neg z5];have z5':0<k1-1:=by
                 have:k1-1≠0:=by simpa using z5
                 omega
               split
               · exact wpS_pure (.inr ⟨rfl,⟨ms.sm.gal _,m4,z5',by omega⟩,by dsimp only;omega⟩)
               · exact wpS_pure ⟨rfl,⟨ms.sm.gal _,m4,z5',by omega⟩,by dsimp only;omega⟩
           · rw [if_neg kz1]
             have nx:=ht1 (na-1) (by omega);rw [pb0_f (by omega)] at nx;have nx:L (b[nb-1]'(by omega)) (a[na-1]'(by omega))=false:=by simpa using nx
             have m1:=ms.mi;have m1s:=m1.size;refine wpS_bind (Zak (getElem?_pos b (nb-1) (by omega)) ?_);have m2:=m1.putB O sa sb ra rb (by omega) (by omega) (by omega) (by omega) nx;have m2s:=m2.size;by_cases z3:(nb-1==1)=true
             · rw [if_pos z3]
               exact wpS_pure (.inl ⟨_,rfl,ms.sm.gal _,m2.fin1 ra rb (by simpa using z3) h0⟩)
             rw [if_neg z3];have z3':1<nb-1:=by
               have:nb-1≠1:=by simpa using z3
               omega
             refine wpS_bind (Zak (getElem?_pos a (na-1) (by omega)) ?_);refine wpS_bind (Zaz C (ms.sm.kind.trans hk) (sa _ (Zan (by omega))) sb (by omega) (by omega) (Za9 O sb rb (sa _ (Zan (by omega))) (by omega)) fun k2 hk2 ht2 hf2=>?_);dsimp only;by_cases kz:nb-1-k2 > 0
             · rw [if_pos kz]
               have m3:=m2.putBs (k:=k2) O sa sb ra rb (by omega) (by omega) hk2 hf2;have m3s:=m3.size;by_cases z4:(k2==1)=true
               · rw [if_pos z4]
                 exact wpS_pure (.inl ⟨_,rfl,ms.sm.gal _,m3.fin1 ra rb (by simpa using z4) h0⟩)
               rw [if_neg z4];by_cases z6:(k2==0)=true
               · rw [if_pos z6]
                 exact wpS_pure (.inl ⟨_,rfl,ms.sm.gal _,m3.fin0b ra (by simpa using z6)⟩)
               rw [if_neg z6];have z4':1<k2:=by
                 have:k2≠1:=by simpa using z4
                 have:k2≠0:=by simpa using z6
                 omega
               have nx2:=ht2 (k2-1) (by omega);rw [Zd3 (by omega)] at nx2;have nx2:=C.asym _ _ nx2;refine wpS_bind (Zak (getElem?_pos a (na-1) (by omega)) ?_);have m4:=m3.putA O sa sb ra rb (by omega) (by omega) (by omega) (by omega) nx2;have m5:=m4.size;by_cases z5:(na-1==0)=true
               · rw [if_pos z5]
                 exact wpS_pure (.inl ⟨_,rfl,ms.sm.gal _,m4.fin0 rb (by simpa using z5)⟩)
               rw [if_neg z5];have z5':0<na-1:=by
                 have:na-1≠0:=by simpa using z5
                 omega
               split
               · exact wpS_pure (.inr ⟨rfl,⟨ms.sm.gal _,m4,z5',by omega⟩,by dsimp only;omega⟩)
               · exact wpS_pure ⟨rfl,⟨ms.sm.gal _,m4,z5',by omega⟩,by dsimp only;omega⟩
             · rw [if_neg kz]
               have m3:=m2;have nx2:=ht2 (nb-1-1) (by omega);rw [Zd3 (by omega)] at nx2;have nx2:=C.asym _ _ nx2;refine wpS_bind (Zak (getElem?_pos a (na-1) (by omega)) ?_);have m4:=m3.putA O sa sb ra rb (by omega) (by omega) (by omega) (by omega) nx2;have m5:=m4.size;by_cases z5:(na-1==0)=true
               · rw [if_pos z5]
                 exact wpS_pure (.inl ⟨_,rfl,ms.sm.gal _,m4.fin0 rb (by simpa using z5)⟩)
               rw [if_neg z5];have z5':0<na-1:=by
                 have:na-1≠0:=by simpa using z5
                 omega
               split
               · exact wpS_pure (.inr ⟨rfl,⟨ms.sm.gal _,m4,z5',by omega⟩,by dsimp only;omega⟩)
               · exact wpS_pure ⟨rfl,⟨ms.sm.gal _,m4,z5',by omega⟩,by dsimp only;omega⟩
         · rw [if_neg gz]
           refine wpS_bind (ZaM ?_);refine wpS_bind (Zak (getElem?_pos b (nb-1) (by omega)) ?_);refine wpS_bind (Zaz C (ms.sm.kind.trans hk) (sb _ (Zan (by omega))) sa (by omega) (by omega) (ZcD O sa ra (sb _ (Zan (by omega))) (by omega)) fun k1 hk1 ht1 hf1=>?_);dsimp only;by_cases kz1:na-k1 > 0
           · rw [if_pos kz1]
             have m1:=ms.mi.putAs (k:=k1) O sa sb ra rb (by omega) (by omega) hk1 hf1;by_cases z1:(k1==0)=true
             · rw [if_pos z1]
               exact wpS_pure (.inl ⟨_,rfl,ms.sm.gal _,m1.fin0 rb (by simpa using z1)⟩)
             rw [if_neg z1];have z1':0<k1:=by
               have:k1≠0:=by simpa using z1
               omega
             have nx:=ht1 (k1-1) (by omega);rw [pb0_f (by omega)] at nx;have nx:L (b[nb-1]'(by omega)) (a[k1-1]'(by omega))=false:=by simpa using nx
             have m1s:=m1.size;refine wpS_bind (Zak (getElem?_pos b (nb-1) (by omega)) ?_);have m2:=m1.putB O sa sb ra rb (by omega) (by omega) (by omega) (by omega) nx;have m2s:=m2.size;by_cases z3:(nb-1==1)=true
             · rw [if_pos z3]
               exact wpS_pure (.inl ⟨_,rfl,ms.sm.gal _,m2.fin1 ra rb (by simpa using z3) h0⟩)
             rw [if_neg z3];have z3':1<nb-1:=by
               have:nb-1≠1:=by simpa using z3
               omega
             refine wpS_bind (Zak (getElem?_pos a (k1-1) (by omega)) ?_);refine wpS_bind (Zaz C (ms.sm.kind.trans hk) (sa _ (Zan (by omega))) sb (by omega) (by omega) (Za9 O sb rb (sa _ (Zan (by omega))) (by omega)) fun k2 hk2 ht2 hf2=>?_);dsimp only;by_cases kz:nb-1-k2 > 0
             · rw [if_pos kz]
               have m3:=m2.putBs (k:=k2) O sa sb ra rb (by omega) (by omega) hk2 hf2;have m3s:=m3.size;by_cases z4:(k2==1)=true
               · rw [if_pos z4]
                 exact wpS_pure (.inl ⟨_,rfl,ms.sm.gal _,m3.fin1 ra rb (by simpa using z4) h0⟩)
               rw [if_neg z4];by_cases z6:(k2==0)=true
               · rw [if_pos z6]
                 exact wpS_pure (.inl ⟨_,rfl,ms.sm.gal _,m3.fin0b ra (by simpa using z6)⟩)
               rw [if_neg z6];have z4':1<k2:=by
                 have:k2≠1:=by simpa using z4
                 have:k2≠0:=by simpa using z6
                 omega
               have nx2:=ht2 (k2-1) (by omega);rw [Zd3 (by omega)] at nx2;have nx2:=C.asym _ _ nx2;refine wpS_bind (Zak (getElem?_pos a (k1-1) (by omega)) ?_);have m4:=m3.putA O sa sb ra rb (by omega) (by omega) (by omega) (by omega) nx2;have m5:=m4.size;by_cases z5:(k1-1==0)=true
               · rw [if_pos z5]
                 exact wpS_pure (.inl ⟨_,rfl,ms.sm.gal _,m4.fin0 rb (by simpa using z5)⟩)
               rw [if_neg z5];have z5':0<k1-1:=by
                 have:k1-1≠0:=by simpa using z5
                 omega
               split
               · exact wpS_pure (.inr ⟨rfl,⟨ms.sm.gal _,m4,z5',by omega⟩,by dsimp only;omega⟩)
               · exact wpS_pure ⟨rfl,⟨ms.sm.gal _,m4,z5',by omega⟩,by dsimp only;omega⟩
             · rw [if_neg kz]
               have m3:=m2;have nx2:=ht2 (nb-1-1) (by omega);rw [Zd3 (by omega)] at nx2;have nx2:=C.asym _ _ nx2;refine wpS_bind (Zak (getElem?_pos a (k1-1) (by omega)) ?_);have m4:=m3.putA O sa sb ra rb (by omega) (by omega) (by omega) (by omega) nx2;have m5:=m4.size;by_cases z5:(k1-1==0)=true
               · rw [if_pos z5]
                 exact wpS_pure (.inl ⟨_,rfl,ms.sm.gal _,m4.fin0 rb (by simpa using z5)⟩)
               rw [if_neg z5];have z5':0<k1-1:=by
                 have:k1-1≠0:=by simpa using z5
                 omega
               split
               · exact wpS_pure (.inr ⟨rfl,⟨ms.sm.gal _,m4,z5',by omega⟩,by dsimp only;omega⟩)
               · exact wpS_pure ⟨rfl,⟨ms.sm.gal _,m4,z5',by omega⟩,by dsimp only;omega⟩
           · rw [if_neg kz1]
             have nx:=ht1 (na-1) (by omega);rw [pb0_f (by omega)] at nx;have nx:L (b[nb-1]'(by omega)) (a[na-1]'(by omega))=false:=by simpa using nx
             have m1:=ms.mi;have m1s:=m1.size;refine wpS_bind (Zak (getElem?_pos b (nb-1) (by omega)) ?_);have m2:=m1.putB O sa sb ra rb (by omega) (by omega) (by omega) (by omega) nx;have m2s:=m2.size;by_cases z3:(nb-1==1)=true
             · rw [if_pos z3]
               exact wpS_pure (.inl ⟨_,rfl,ms.sm.gal _,m2.fin1 ra rb (by simpa using z3) h0⟩)
             rw [if_neg z3];have z3':1<nb-1:=by
               have:nb-1≠1:=by simpa using z3
               omega
             refine wpS_bind (Zak (getElem?_pos a (na-1) (by omega)) ?_);refine wpS_bind (Zaz C (ms.sm.kind.trans hk) (sa _ (Zan (by omega))) sb (by omega) (by omega) (Za9 O sb rb (sa _ (Zan (by omega))) (by omega)) fun k2 hk2 ht2 hf2=>?_);dsimp only;by_cases kz:nb-1-k2 > 0
             · rw [if_pos kz]
               have m3:=m2.putBs (k:=k2) O sa sb ra rb (by omega) (by omega) hk2 hf2;have m3s:=m3.size;by_cases z4:(k2==1)=true
               · rw [if_pos z4]
                 exact wpS_pure (.inl ⟨_,rfl,ms.sm.gal _,m3.fin1 ra rb (by simpa using z4) h0⟩)
               rw [if_neg z4];by_cases z6:(k2==0)=true
               · rw [if_pos z6]
                 exact wpS_pure (.inl ⟨_,rfl,ms.sm.gal _,m3.fin0b ra (by simpa using z6)⟩)
               rw [if_neg z6];have z4':1<k2:=by
                 have:k2≠1:=by simpa using z4
                 have:k2≠0:=by simpa using z6
                 omega
               have nx2:=ht2 (k2-1) (by omega);rw [Zd3 (by omega)] at nx2;have nx2:=C.asym _ _ nx2;refine wpS_bind (Zak (getElem?_pos a (na-1) (by omega)) ?_);have m4:=m3.putA O sa sb ra rb (by omega) (by omega) (by omega) (by omega) nx2;have m5:=m4.size;by_cases z5:(na-1==0)=true
               · rw [if_pos z5]
                 exact wpS_pure (.inl ⟨_,rfl,ms.sm.gal _,m4.fin0 rb (by simpa using z5)⟩)
               rw [if_neg z5];have z5':0<na-1:=by
                 have:na-1≠0:=by simpa using z5
                 omega
               split
               · exact wpS_pure (.inr ⟨rfl,⟨ms.sm.gal _,m4,z5',by omega⟩,by dsimp only;omega⟩)
               · exact wpS_pure ⟨rfl,⟨ms.sm.gal _,m4,z5',by omega⟩,by dsimp only;omega⟩
             · rw [if_neg kz]
               have m3:=m2;have nx2:=ht2 (nb-1-1) (by omega);rw [Zd3 (by omega)] at nx2;have nx2:=C.asym _ _ nx2;refine wpS_bind (Zak (getElem?_pos a (na-1) (by omega)) ?_);have m4:=m3.putA O sa sb ra rb (by omega) (by omega) (by omega) (by omega) nx2;have m5:=m4.size;by_cases z5:(na-1==0)=true
               · rw [if_pos z5]
                 exact wpS_pure (.inl ⟨_,rfl,ms.sm.gal _,m4.fin0 rb (by simpa using z5)⟩)
               rw [if_neg z5];have z5':0<na-1:=by
                 have:na-1≠0:=by simpa using z5
                 omega
               split
               · exact wpS_pure (.inr ⟨rfl,⟨ms.sm.gal _,m4,z5',by omega⟩,by dsimp only;omega⟩)
               · exact wpS_pure ⟨rfl,⟨ms.sm.gal _,m4,z5',by omega⟩,by dsimp only;omega⟩
end
end Srt
namespace Srt
open PySem PyProof.Rows
section
variable {S:Keyed→Prop}{L:Keyed→Keyed→Bool}
theorem Zdg {arr:Array Keyed}{pre A rest:List Keyed}(e:arr.toList=pre++(A++rest)){i:Nat}(hi:i<A.length):arr[pre.length+i]?=some A[i]:=by rw [← Array.getElem?_toList,e,List.getElem?_append_right (by omega),show pre.length+i-pre.length=i by omega,List.getElem?_append_left hi];exact List.getElem?_eq_getElem hi
theorem seg_f {arr:Array Keyed}{pre A rest:List Keyed}(e:arr.toList=pre++(A++rest)){key:Keyed}{i:Nat}(hi:i<A.length):pb L false key arr pre.length i=!L key A[i]:=by unfold pb;rw [Zdg e hi];rfl
theorem seg_t {arr:Array Keyed}{pre A rest:List Keyed}(e:arr.toList=pre++(A++rest)){key:Keyed}{i:Nat}(hi:i<A.length):pb L true key arr pre.length i=L A[i] key:=by unfold pb;rw [Zdg e hi];rfl
theorem ZbJ {A:List Keyed}(r:Rise L A){i j:Nat}(hij:i<j)(hj:j<A.length):L A[j] (A[i]'(by omega))=false:=List.pairwise_iff_getElem.mp r i j (by omega) hj hij
theorem Zij (O:Ord S L){arr:Array Keyed}{pre A rest:List Keyed}(e:arr.toList=pre++(A++rest))(r:Rise L A)(sA:∀ x∈A,S x){key:Keyed}(sk:S key) :
   ∀ i j,i≤j→j<A.length→pb L false key arr pre.length j=true→pb L false key arr pre.length i=true:=by
 intro i j hij hj h;rw [seg_f e hj] at h;rw [seg_f e (by omega)];rcases Nat.lt_or_ge i j with q | q
 · have h:L key A[j]=false:=by simpa using h
   have:=O.step (sA _ (List.getElem_mem (by omega))) (sA _ (List.getElem_mem hj)) sk h (ZbJ r q hj);simpa using this
 · have:i=j:=by omega
   subst this;exact h
theorem Zh4 (O:Ord S L){arr:Array Keyed}{pre A rest:List Keyed}(e:arr.toList=pre++(A++rest))(r:Rise L A)(sA:∀ x∈A,S x){key:Keyed}(sk:S key) :
   ∀ i j,i≤j→j<A.length→pb L true key arr pre.length j=true→pb L true key arr pre.length i=true:=by
 intro i j hij hj h;rw [seg_t e hj] at h;rw [seg_t e (by omega)];rcases Nat.lt_or_ge i j with q | q
 · rcases O.neg _ (A[i]'(by omega)) _ (sA _ (List.getElem_mem hj)) (sA _ (List.getElem_mem (by omega))) sk h with z | z
   · rw [ZbJ r q hj] at z
     cases z
   · exact z
 · have:i=j:=by omega
   subst this;exact h
theorem Zct {A:List Keyed}{k:Nat}{x:Keyed}(h:x∈A.take k):∃ i,i<k∧∃ q:i<A.length,x=A[i]:=by obtain ⟨j,hj,e⟩:=List.mem_iff_getElem.mp h;rw [List.length_take] at hj;exact ⟨j,by omega,by omega,by rw [← e];simp⟩
theorem Zcw {A:List Keyed}{k:Nat}{x:Keyed}(h:x∈A.drop k):∃ i,k≤i∧∃ q:i<A.length,x=A[i]:=by obtain ⟨j,hj,e⟩:=List.mem_iff_getElem.mp h;rw [List.length_drop] at hj;exact ⟨k+j,by omega,by omega,by rw [← e];simp⟩
theorem Zi8:∀ (l:List Keyed) (n:Nat) (sa:Nat) (arr:Array Keyed),sa+n+l.length≤arr.size →
   ((l.zipIdx n).foldl (fun (a:Array Keyed) (q:Keyed × Nat)=>a.setIfInBounds (sa+q.2) q.1) arr).toList=arr.toList.take (sa+n)++l++arr.toList.drop (sa+n+l.length)
 | [],n,sa,arr,h=>by simp
 | x :: l,n,sa,arr,h=>by
   rw [List.zipIdx_cons,List.foldl_cons];have h':sa+(n+1)+l.length≤(arr.setIfInBounds (sa+n) x).size:=by rw [Array.size_setIfInBounds];simp only [List.length_cons] at h;omega
   rw [Zi8 l (n+1) sa _ h'];have hlt:sa+n<arr.toList.length:=by simp only [List.length_cons] at h;simp;omega
   rw [Array.toList_setIfInBounds,List.take_set,List.drop_set];rw [if_pos (by omega)];have e1:(arr.toList.take (sa+(n+1))).set (sa+n) x=arr.toList.take (sa+n)++[x]:=by
     rw [show sa+(n+1)=sa+n+1 by omega,List.take_succ,List.getElem?_eq_getElem hlt];have hl:(arr.toList.take (sa+n)).length=sa+n:=by rw [List.length_take];omega
     rw [List.set_append_right _ _ (by omega),hl,Nat.sub_self];rfl
   rw [e1];simp only [List.length_cons,List.append_assoc,List.cons_append,List.nil_append];rw [show sa+(n+1)+l.length=sa+n+(l.length+1) by omega]
theorem Zc1 (O:Ord S L) {A B M:List Keyed} {k n:Nat} {b0 al:Keyed} (rA:Rise L A) (rB:Rise L B) (sA:∀ x∈A,S x) (sB:∀ x∈B,S x) (sb0:S b0) (sal:S al) (hb0:∀ y∈B,L y b0=false) (hal:∀ x∈A,L al x=false)
   (f1:∀ x∈A.take k,L b0 x=false) (f2:∀ y∈B.drop n,L y al=false) (pM:M.Perm (A.drop k++B.take n)) (rM:Rise L M):Rise L (A.take k++M++B.drop n)∧(A.take k++M++B.drop n).Perm (A++B):=by
 have bp:∀ x∈A.take k,∀ y∈B,L y x=false:=fun x hx y hy=>O.step (sA _ (List.mem_of_mem_take hx)) sb0 (sB _ hy) (hb0 y hy) (f1 x hx)
 have qa:∀ x∈A,∀ y∈B.drop n,L y x=false:=fun x hx y hy=>O.step (sA _ hx) sal (sB _ (List.mem_of_mem_drop hy)) (f2 y hy) (hal x hx)
 constructor
 · refine List.pairwise_append.mpr ⟨List.pairwise_append.mpr ⟨rA.sublist (List.take_sublist _ _),rM,fun x hx y hy=>?_⟩,rB.sublist (List.drop_sublist _ _),fun x hx y hy=>?_⟩
   · rcases List.mem_append.mp (pM.mem_iff.mp hy) with z | z
     · have r:=rA
       rw [← List.take_append_drop k A] at r;exact (List.pairwise_append.mp r).2.2 x hx y z
     · exact bp x hx y (List.mem_of_mem_take z)
   · rcases List.mem_append.mp hx with w | w
     · exact qa x (List.mem_of_mem_take w) y hy
     · rcases List.mem_append.mp (pM.mem_iff.mp w) with z | z
       · exact qa x (List.mem_of_mem_drop z) y hy
       · have r:=rB
         rw [← List.take_append_drop n B] at r;exact (List.pairwise_append.mp r).2.2 x z y hy
 · refine ((List.Perm.append_left _ pM).append_right _).trans ?_
   rw [← List.append_assoc,List.take_append_drop,List.append_assoc,List.take_append_drop]
end
structure Two (L:Keyed→Keyed→Bool)(st:SortSt)(i:Nat)(pre A B post:List Keyed):Prop where
 arr:(arrOf st).toList=pre++(A++(B++post))
 pa:∃ pw,(pendingOf st)[i]?=some (pre.length,A.length,pw)
 pb:∃ pw,(pendingOf st)[i+1]?=some (pre.length+A.length,B.length,pw)
 rA:Rise L A
 rB:Rise L B
 nA:0<A.length
 nB:0<B.length
section
variable {M:Model}{Ar:Around}{E:Value→Shared→Prop}{s:Shared}{kd:SortKind}{S:Keyed→Prop}{L:Keyed→Keyed→Bool}
theorem wpS_set {σ:Type}{x:σ}{Q:PUnit→σ→Prop}{st:σ}(h:Q ⟨⟩ x):wpS M Ar E s (set x:StateT σ Sem PUnit) Q st:=by unfold wpS;rw [StateT.run_set];exact wpAny_pure ⟨rfl,h⟩
theorem ZhQ (C:Cmp M Ar E s kd S L){st:SortSt}{i:Nat}{pre A B post:List Keyed}{Q:Bool→SortSt→Prop}(hk:kindOf st=kd)(hf:failedOf st=none)(sS:∀ x∈(arrOf st).toList,S x)(T:Two L st i pre A B post)
   (h:∀ (st':SortSt) (R:List Keyed) (pw:Nat),kindOf st'=kd→failedOf st'=none→(arrOf st').toList=pre++(R++post)→Rise L R→R.Perm (A++B) →
     pendingOf st'=((pendingOf st).setIfInBounds i (pre.length,A.length+B.length,pw)).eraseIdxIfInBounds (i+1)→Q true st'):wpS M Ar E s (mergeAt' i) Q st:=by
 have O:=C.ord;obtain ⟨earr,⟨pw,epa⟩,⟨pw2,epb⟩,rA,rB,nA,nB⟩:=T;have sA:∀ x∈A,S x:=fun x hx=>sS x (by rw [earr];simp [hx])
 have sB:∀ x∈B,S x:=fun x hx=>sS x (by rw [earr];simp [hx])
 have earr2:(arrOf st).toList=(pre++A)++(B++post):=by rw [earr,List.append_assoc]
 have hsz:(arrOf st).size=pre.length+A.length+B.length+post.length:=by rw [← Array.length_toList,earr];simp only [List.length_append];omega
 have ga:=fun {j:Nat} (hj:j<A.length)=>Zdg earr hj
 have gb:∀ {j:Nat} (hj:j<B.length),(arrOf st)[pre.length+A.length+j]?=some B[j]:=fun {j} hj=>by
   have:=Zdg earr2 hj;rw [List.length_append] at this;exact this
 have ht:=fun {key:Keyed} {j:Nat} (hj:j<B.length)=>seg_t (L:=L) (key:=key) earr2 hj
 have mt:=fun {key:Keyed} (sk:S key)=>Zh4 O earr2 rB sB sk
 rw [List.length_append] at ht mt;have aux:∀ {P:Prop},P→P:=fun x=>x
 unfold mergeAt'
 k_delta "mergeAt"
 refine wpS_bind (wpS_get ?_);dsimp only;rw [epa,epb];dsimp only;refine wpS_bind (wpS_set ?_);refine wpS_bind (Zak (gb (j:=0) nB) ?_);refine wpS_bind (Zaz (arr:=arrOf st) C (by exact hk) (sB _ (List.getElem_mem nB)) sS (by omega) nA (Zij O earr rA sA (sB _ (List.getElem_mem nB))) fun k hk1 t1 f1=>?_);dsimp only;have hb0:∀ y∈B,L y B[0]=false:=fun y hy=>by
   obtain ⟨j,hj,rfl⟩:=List.mem_iff_getElem.mp hy;rcases Nat.eq_zero_or_pos j with z | z
   · subst z
     exact O.irr _
   · exact ZbJ rB z hj
 have hal:∀ x∈A,L A[A.length-1] x=false:=fun x hx=>by
   obtain ⟨j,hj,rfl⟩:=List.mem_iff_getElem.mp hx;rcases Nat.lt_or_ge j (A.length-1) with z | z
   · exact ZbJ rA z (by omega)
   · have:j=A.length-1:=by omega
     subst this;exact O.irr _
 have F1:∀ x∈A.take k,L B[0] x=false:=fun x hx=>by
   obtain ⟨j,hj,q,rfl⟩:=Zct hx;have:=t1 j hj;rw [seg_f earr q] at this;simpa using this
 have F1':∀ x∈A.drop k,L B[0] x=true:=fun x hx=>by
   obtain ⟨j,hj,q,rfl⟩:=Zcw hx;have:=f1 j hj q;rw [seg_f earr q] at this;simpa using this
 by_cases z1:(A.length-k==0)=true
 · rw [if_pos z1]
   have ek:A.length≤k:=by
     have:A.length-k=0:=by simpa using z1
     omega
   have:=Zc1 (M:=[]) (n:=0) O rA rB sA sB (sB _ (List.getElem_mem nB)) (sA A[A.length-1] (List.getElem_mem (by omega))) hb0 hal F1 (fun y hy=>?_) (by rw [List.drop_of_length_le ek];simp) .nil
   · refine wpS_pure (h _ (A.take k++[]++B.drop 0) pw hk hf ?_ this.1 this.2 rfl)
     rw [List.take_of_length_le ek];simp only [List.append_nil,List.drop_zero,List.append_assoc];exact earr
   · exact O.step (sA _ (List.getElem_mem (by omega))) (sB _ (List.getElem_mem nB)) (sB _ hy) (hb0 y hy) (F1 _ (by rw [List.take_of_length_le ek];exact List.getElem_mem (by omega)))
 rw [if_neg z1];have z1':k<A.length:=by
   have:A.length-k≠0:=by simpa using z1
   omega
 have el:(arrOf st)[pre.length+k+(A.length-k)-1]?=some A[A.length-1]:=by rw [show pre.length+k+(A.length-k)-1=pre.length+(A.length-1) by omega];exact ga (by omega)
 refine wpS_bind (Zak el ?_);refine wpS_bind (Zaz (arr:=arrOf st) C (by exact hk) (sA _ (List.getElem_mem (by omega))) sS (by omega) (by omega) (mt (sA _ (List.getElem_mem (by omega)))) fun n hn t2 f2=>?_);dsimp only;have F2:∀ y∈B.drop n,L y A[A.length-1]=false:=fun y hy=>by
   obtain ⟨j,hj,q,rfl⟩:=Zcw hy;have:=f2 j hj q;rw [ht q] at this;exact this
 have F2':∀ y∈B.take n,L y A[A.length-1]=true:=fun y hy=>by
   obtain ⟨j,hj,q,rfl⟩:=Zct hy;have:=t2 j hj;rw [ht q] at this;exact this
 by_cases z2:(n==0)=true
 · rw [if_pos z2]
   have en:n=0:=by simpa using z2
   subst en;have:=Zc1 (M:=A.drop k) (n:=0) O rA rB sA sB (sB _ (List.getElem_mem nB)) (sA A[A.length-1] (List.getElem_mem (by omega))) hb0 hal F1 F2 (by simp) (rA.sublist (List.drop_sublist _ _));refine wpS_pure (h _ (A.take k++A.drop k++B.drop 0) pw hk hf ?_ this.1 this.2 rfl);rw [List.take_append_drop,List.drop_zero,List.append_assoc];exact earr
 rw [if_neg z2];have z2':0<n:=by
   have:n≠0:=by simpa using z2
   omega
 have ex:((arrOf st).extract (pre.length+k) (pre.length+A.length)).toList=A.drop k:=by rw [ZcF _ (by omega),earr];rw [show pre++(A++(B++post))=(pre++A)++(B++post) by rw [List.append_assoc]];rw [List.take_append_of_le_length (by simp),List.take_of_length_le (by simp),← List.drop_drop];simp
 have ey:((arrOf st).extract (pre.length+A.length) (pre.length+A.length+n)).toList=B.take n:=by rw [ZeE,earr2];rw [show pre.length+A.length=(pre++A).length by simp,List.drop_left,List.take_append_of_le_length hn]
 generalize (arrOf st).extract (pre.length+k) (pre.length+A.length)=x at ex ⊢;generalize (arrOf st).extract (pre.length+A.length) (pre.length+A.length+n)=y at ey ⊢;have xs:x.size=A.length-k:=by rw [← Array.length_toList,ex,List.length_drop]
 have ys:y.size=n:=by rw [← Array.length_toList,ey,List.length_take];omega
 have y0:∀ (q:0<y.size),y[0]=B[0]:=fun q=>by
   have:y.toList[0]?=(B.take n)[0]?:=by rw [ey]
   rw [List.getElem?_take_of_lt z2',List.getElem?_eq_getElem nB,Array.getElem?_toList,getElem?_pos y 0 q] at this;exact Option.some.inj this
 have xl:∀ (q:x.size-1<x.size),x[x.size-1]=A[A.length-1]:=fun q=>by
   have e2:(A.drop k)[x.size-1]?=some A[A.length-1]:=by rw [List.getElem?_drop,xs,show k+(A.length-k-1)=A.length-1 by omega];exact List.getElem?_eq_getElem (by omega)
   have:x.toList[x.size-1]?=some A[A.length-1]:=by rw [ex];exact e2
   rw [Array.getElem?_toList,getElem?_pos x (x.size-1) q] at this;exact Option.some.inj this
 have fin:∀ (o:Array Keyed) (st':SortSt),Sm (setPending st (((pendingOf st).setIfInBounds i (pre.length,A.length+B.length,pw)).eraseIdxIfInBounds (i+1))) st'→Mrg L x.toList y.toList o.toList →
     wpS M Ar E s (do
       modify fun s=>setArr s (o.toList.zipIdx.foldl (fun (a:Array Keyed) (q:Keyed × Nat)=>a.setIfInBounds (pre.length+k+q.2) q.1) (arrOf s))
       return (failedOf (← get)).isNone) Q st':=by
   intro o st' sm ⟨mp,mr⟩;rw [ex,ey] at mp;have:=Zc1 O rA rB sA sB (sB _ (List.getElem_mem nB)) (sA A[A.length-1] (List.getElem_mem (by omega))) hb0 hal F1 F2 mp mr;have ol:o.toList.length=A.length-k+n:=by rw [mp.length_eq,List.length_append,List.length_drop,List.length_take];omega
   refine wpS_bind (wpS_modify ?_);refine wpS_bind (wpS_get (wpS_pure ?_));have ef:failedOf st'=none:=sm.failed.trans hf;show Q (failedOf st').isNone _;rw [ef];refine h _ _ pw (sm.kind.trans hk) ef ?_ this.1 this.2 sm.pend;show (o.toList.zipIdx.foldl _ (arrOf st')).toList=_;have ea:arrOf st'=arrOf st:=sm.arr;rw [ea];refine (Zi8 o.toList 0 (pre.length+k) (arrOf st) (by omega)).trans ?_;rw [Nat.add_zero,earr,ol];have t3:(pre++(A++(B++post))).take (pre.length+k)=pre++A.take k:=by rw [List.take_append,List.take_of_length_le (by omega),show pre.length+k-pre.length=k by omega,List.take_append_of_le_length (by omega)]
   have t4:(pre++(A++(B++post))).drop (pre.length+k+(A.length-k+n))=B.drop n++post:=by rw [show pre.length+k+(A.length-k+n)=pre.length+(A.length+n) by omega,← List.drop_drop,List.drop_left,← List.drop_drop,List.drop_left,List.drop_append_of_le_length hn]
   rw [t3,t4];simp only [List.append_assoc]
 have sx:∀ z∈x.toList,S z:=fun z hz=>sA z (by rw [ex] at hz;exact List.mem_of_mem_drop hz)
 have sy:∀ z∈y.toList,S z:=fun z hz=>sB z (by rw [ey] at hz;exact List.mem_of_mem_take hz)
 have rx:Rise L x.toList:=by rw [ex];exact rA.sublist (List.drop_sublist _ _)
 have ry:Rise L y.toList:=by rw [ey];exact rB.sublist (List.take_sublist _ _)
 have hx0:∀ z∈x.toList,L z B[0]=false:=fun z hz=>C.asym _ _ (F1' z (by rw [← ex];exact hz))
 have hyl:∀ z∈y.toList,L A[A.length-1] z=false:=fun z hz=>C.asym _ _ (F2' z (by rw [← ey];exact hz))
 by_cases z3:A.length-k≤n
 · rw [if_pos z3]
   refine wpS_bind (Zhs C (by exact hk) sx sy rx ry (by omega) (by omega) (fun z hz=>by rw [y0 (by omega)];exact hx0 z hz) (fun z hz w hw=>?_) fin);rw [ZbI (by omega),show x.size-1+1=x.toList.length by simp;omega,List.drop_of_length_le (Nat.le_refl _)] at hz;have hz:z=x[x.size-1]:=by simpa using hz
   rw [hz,xl (by omega)];exact hyl w hw
 · rw [if_neg z3]
   refine wpS_bind (Zg4 C (by exact hk) sx sy rx ry (by omega) (by omega) (fun z hz w hw=>?_) (fun w hw=>by rw [xl (by omega)];exact hyl w hw) fin);have e1:y.toList.take 1=[y[0]'(by omega)]:=by have:=ZbI (a:=y) (i:=0) (by omega);rw [List.drop_zero] at this;rw [this];rfl
   rw [e1] at hw;have hw:w=y[0]'(by omega):=by simpa using hw
   rw [hw,y0 (by omega)];exact hx0 z hz
end
end Srt
namespace Srt
open PySem PyProof.Rows
theorem swap_adj {xs:Array Keyed} {u v:List Keyed} {x y:Keyed} (e:xs.toList=u++(y::x::v)):(xs.swapIfInBounds (u.length+1) u.length).toList=u++(x::y::v):=by
 have sz:xs.size=u.length+(v.length+2):=by rw [← Array.length_toList,e];simp
 apply List.ext_getElem?
 intro t;rw [Array.getElem?_toList,getElem?_swapIB (by omega) (by omega)];have g:∀ i,xs[i]?=(u++(y::x::v))[i]?:=fun i=>by rw [← Array.getElem?_toList,e]
 rw [g,g,g];by_cases h1:u.length=t
 · subst h1
   rw [if_pos rfl,List.getElem?_append_right (by omega),List.getElem?_append_right (by omega),Nat.sub_self,show u.length+1-u.length=1 by omega];rfl
 · rw [if_neg h1]
   by_cases h2:u.length+1=t
   · subst h2
     rw [if_pos rfl,List.getElem?_append_right (by omega),List.getElem?_append_right (by omega),Nat.sub_self,show u.length+1-u.length=1 by omega];rfl
   · rw [if_neg h2]
     rcases Nat.lt_or_ge t u.length with q | q
     · rw [List.getElem?_append_left q,List.getElem?_append_left q]
     · rw [List.getElem?_append_right q,List.getElem?_append_right q]
       obtain ⟨w,hw⟩:∃ w,t-u.length=w+2:=⟨t-u.length-2,by omega⟩
       rw [hw];rfl
theorem Zd0 {arr:Array Keyed}{pre A rest:List Keyed}{x:Keyed}(e:arr.toList=pre++(A++(x::rest))):∀ d,d≤A.length→(bubble arr (pre.length+A.length) d).toList=pre++(A.take (A.length-d)++(x::(A.drop (A.length-d)++rest)))
 | 0,_=>by
   rw [Nat.sub_zero,List.take_of_length_le (Nat.le_refl _),List.drop_of_length_le (Nat.le_refl _),List.nil_append];exact e
 | d + 1,h=>by
   have ih:=Zd0 e d (by omega);rw [bubble_succ];obtain ⟨m,hm⟩:∃ m,A.length-d=m+1:=⟨A.length-d-1,by omega⟩
   have hm2:A.length-(d+1)=m:=by omega
   have hmA:m<A.length:=by omega
   rw [hm] at ih;rw [hm2];have e1:A.take (m+1)=A.take m++[A[m]]:=by rw [List.take_succ,List.getElem?_eq_getElem hmA];rfl
   have e2:A.drop m=A[m]::A.drop (m+1):=List.drop_eq_getElem_cons hmA;have ih2:(bubble arr (pre.length+A.length) d).toList=(pre++A.take m)++(A[m]::x::(A.drop (m+1)++rest)):=by rw [ih,e1];simp only [List.append_assoc,List.cons_append,List.nil_append]
   have:=swap_adj ih2;rw [show (pre++A.take m).length=pre.length+m by rw [List.length_append,List.length_take];omega] at this;rw [show pre.length+A.length-d=pre.length+m+1 by omega,show pre.length+m+1-1=pre.length+m by omega,this,e2];simp only [List.append_assoc,List.cons_append,List.nil_append]
theorem ZhN {arr:Array Keyed}{u w v:List Keyed}(e:arr.toList=u++(w++v)):(mirror arr u.length (u.length+w.length) ((u.length+w.length-u.length)/2)).toList=u++(w.reverse++v):=by
 have sz:arr.size=u.length+(w.length+v.length):=by rw [← Array.length_toList,e];simp
 apply List.ext_getElem?
 intro t;rw [Array.getElem?_toList,getElem?_mirror_all (by omega)];have g:∀ i,arr[i]?=(u++(w++v))[i]?:=fun i=>by rw [← Array.getElem?_toList,e]
 rw [g,g];by_cases h1:u.length≤t∧t<u.length+w.length
 · rw [if_pos h1,List.getElem?_append_right (by omega),List.getElem?_append_right h1.1,List.getElem?_append_left (by omega),List.getElem?_append_left (by rw [List.length_reverse];omega),List.getElem?_reverse (by omega)]
   congr 1
   omega
 · rw [if_neg h1]
   rcases Nat.lt_or_ge t u.length with q | q
   · rw [List.getElem?_append_left q,List.getElem?_append_left q]
   · rw [List.getElem?_append_right q,List.getElem?_append_right q,List.getElem?_append_right (by omega),List.getElem?_append_right (by rw [List.length_reverse];omega),List.length_reverse]
structure Sa (st st':SortSt):Prop where
 kind:kindOf st'=kindOf st
 pend:pendingOf st'=pendingOf st
 failed:failedOf st'=failedOf st
section
variable {M:Model}{Ar:Around}{E:Value→Shared→Prop}{s:Shared}{kd:SortKind}{S:Keyed→Prop}{L:Keyed→Keyed→Bool}
theorem Zdu (C:Cmp M Ar E s kd S L){st:SortSt}{i j:Nat}{x y:Keyed}{Q:Option Bool→SortSt→Prop}(hk:kindOf st=kd)(ei:(arrOf st)[i]?=some x)(ej:(arrOf st)[j]?=some y)(sx:S x)(sy:S y)(h:Q (some (L x y)) st):wpS M Ar E s (ltAt' i j) Q st:=by rw [ltAt'_eq];refine wpS_bind (wpS_get ?_);dsimp only;exact wpS_bind (Zak ei (wpS_bind (Zak ej (C.lt _ _ _ _ sx sy hk h))))
theorem Zii (C:Cmp M Ar E s kd S L) {st:SortSt} {pre A U post:List Keyed} {Q:Bool→SortSt→Prop} (hk:kindOf st=kd) (sS:∀ x∈A++U,S x) (e:(arrOf st).toList=pre++(A++(U++post))) (rA:Rise L A) (nA:0<A.length)
   (h:∀ (st':SortSt) (R:List Keyed),Sa st st'→(arrOf st').toList=pre++(R++post)→Rise L R→R.Perm (A++U)→Q true st'):wpS M Ar E s (binarySort' pre.length (A.length+U.length) A.length) Q st:=by
 have O:=C.ord;rw [binarySort'_eq];rw [show max A.length 1=A.length by omega];refine wpS_bind (wpS_mono (wpS_forRange (I:=fun k c st'=>c.1=none∧Sa st st'∧A.length≤k∧k≤A.length+U.length∧∃ R,R.length=k∧(arrOf st').toList=pre++(R++(U.drop (k-A.length)++post))∧Rise L R∧R.Perm (A++U.take (k-A.length)))
   (Q:=fun c st'=>c.1=none∧Sa st st'∧∃ R,(arrOf st').toList=pre++(R++post)∧Rise L R∧R.Perm (A++U)) ?step ?fin ?init) ?post)
 case init=>exact ⟨rfl,⟨rfl,rfl,rfl⟩,Nat.le_refl _,by omega,A,rfl,by rw [Nat.sub_self,List.drop_zero];exact e,rA,by rw [Nat.sub_self];simp⟩
 case fin =>
   rintro c st' ⟨e1,sm,h1,h2,R,hl,ea,rR,pR⟩;refine ⟨e1,sm,R,?_,rR,?_⟩
   · rw [ea,List.drop_of_length_le (by omega),List.nil_append]
   · rw [List.take_of_length_le (by omega)] at pR
     exact pR
 case post =>
   rintro ⟨c1,c2⟩ st' ⟨e1,sm,R,ea,rR,pR⟩;dsimp only at e1;subst e1;exact wpS_pure (h st' R sm ea rR pR)
 case step =>
   rintro k ⟨c1,_⟩ st' _ hkn ⟨e1,sm,h1,h2,R,hl,ea,rR,pR⟩;dsimp only at e1 ⊢;subst e1;have hu:k-A.length<U.length:=by omega
   have ed:U.drop (k-A.length)=U[k-A.length]::U.drop (k-A.length+1):=List.drop_eq_getElem_cons hu;generalize hx:U[k-A.length]=x at ed;have sx:S x:=sS x (by rw [← hx];exact List.mem_append_right _ (List.getElem_mem hu));have sR:∀ z∈R,S z:=fun z hz=>sS z (by
     rcases List.mem_append.mp (pR.mem_iff.mp hz) with q | q
     · exact List.mem_append_left _ q
     · exact List.mem_append_right _ (List.mem_of_mem_take q))
   rw [ed] at ea;have ek:(arrOf st')[pre.length+k]?=some x:=by rw [← Array.getElem?_toList,ea,List.getElem?_append_right (by omega),show pre.length+k-pre.length=k by omega,List.getElem?_append_right (by omega),hl,Nat.sub_self];rfl
   have kk:kindOf st'=kd:=sm.kind.trans hk;refine wpS_bind (wpS_mono (wpS_forRange (I:=fun y c st2=>st'=st2∧c.1=none∧c.2.1≤c.2.2∧c.2.2≤k∧c.2.2-c.2.1≤k-y∧(∀ z∈R.take c.2.1,L x z=false)∧(∀ z∈R.drop c.2.2,L x z=true))
     (Q:=fun c st2=>st'=st2∧c.1=none∧c.2.1≤k∧(∀ z∈R.take c.2.1,L x z=false)∧(∀ z∈R.drop c.2.1,L x z=true)) ?step2 ?fin2 ?init2) ?post2)
   case init2=>exact ⟨rfl,rfl,Nat.zero_le _,Nat.le_refl _,by dsimp only;omega,fun z hz=>by simp at hz,fun z hz=>by rw [List.drop_of_length_le (by dsimp only;omega)] at hz;simp at hz⟩
   case fin2 =>
     rintro ⟨c1,l,r⟩ st2 ⟨rfl,e1,g1,g2,g3,g4,g5⟩;dsimp only at *;have:l=r:=by omega
     subst this;exact ⟨rfl,e1,g2,g4,g5⟩
   case step2 =>
     rintro y ⟨c1,l,r⟩ st2 _ hy ⟨rfl,e1,g1,g2,g3,g4,g5⟩;dsimp only at *;subst e1;by_cases hlt:l≥r
     · rw [if_pos hlt]
       have:l=r:=by omega
       subst this;exact wpS_pure ⟨rfl,rfl,g2,g4,g5⟩
     · rw [if_neg hlt]
       have hm:(l+r)/2<R.length:=by omega
       refine wpS_bind (Zdu C kk ek (Zdg ea hm) sx (sR _ (List.getElem_mem hm)) ?_);dsimp only;cases el:L x R[(l+r)/2] with
       | true =>
         rw [if_pos rfl];refine wpS_pure ⟨rfl,rfl,by dsimp only;omega,by dsimp only;omega,by dsimp only;omega,g4,fun z hz=>?_⟩;obtain ⟨j,hj,q,rfl⟩:=Zcw hz;dsimp only at hj;rcases Nat.lt_or_ge ((l+r)/2) j with w | w
         · rcases O.neg x R[j] R[(l+r)/2] sx (sR _ (List.getElem_mem q)) (sR _ (List.getElem_mem hm)) el with v | v
           · exact v
           · rw [ZbJ rR w q] at v
             cases v
         · have:j=(l+r)/2:=by omega
           subst this;exact el
       | false =>
         rw [if_neg (by decide)];refine wpS_pure ⟨rfl,rfl,by dsimp only;omega,g2,by dsimp only;omega,fun z hz=>?_,g5⟩;obtain ⟨j,hj,q,rfl⟩:=Zct hz;dsimp only at hj;rcases Nat.lt_or_ge j ((l+r)/2) with w | w
         · exact O.step (sR _ (List.getElem_mem q)) (sR _ (List.getElem_mem hm)) sx el (ZbJ rR w hm)
         · have:j=(l+r)/2:=by omega
           subst this;exact el
   case post2 =>
     rintro ⟨c1,l,r⟩ st2 ⟨rfl,e1,g2,g4,g5⟩;dsimp only at *;subst e1;rw [moveDown'_eq];refine wpS_bind (wpS_modify (wpS_pure ⟨rfl,⟨sm.kind,sm.pend,sm.failed⟩,by omega,by omega,R.take l++(x::R.drop l),?_,?_,?_,?_⟩))
     · simp only [List.length_append,List.length_take,List.length_cons,List.length_drop]
       omega
     · show (bubble (arrOf st') (pre.length+k) (pre.length+k-(pre.length+l))).toList=_
       have:=Zd0 ea (k-l) (by omega);rw [hl,show k-(k-l)=l by omega] at this;rw [show pre.length+k-(pre.length+l)=k-l by omega,this,show k+1-A.length=k-A.length+1 by omega];simp only [List.append_assoc,List.cons_append];rfl
     · refine List.pairwise_append.mpr ⟨rR.sublist (List.take_sublist _ _),List.pairwise_cons.mpr ⟨fun z hz=>O.asym _ _ (g5 z hz),rR.sublist (List.drop_sublist _ _)⟩,fun z hz w hw=>?_⟩
       rcases List.mem_cons.mp hw with q | q
       · rw [q]
         exact g4 z hz
       · have r2:=rR
         rw [← List.take_append_drop l R] at r2;exact (List.pairwise_append.mp r2).2.2 z hz w q
     · rw [show k+1-A.length=k-A.length+1 by omega,List.take_succ,List.getElem?_eq_getElem hu,hx,← List.append_assoc]
       refine (List.perm_middle (l₁:=R.take l) (l₂:=R.drop l)).trans ?_;rw [List.take_append_drop];refine (List.Perm.cons x pR).trans ?_;exact (List.perm_append_singleton x _).symm
end
end Srt
namespace Srt
open PySem PyProof.Rows
abbrev Fall (L:Keyed→Keyed→Bool)(l:List Keyed):Prop:=l.Pairwise fun x y=>L x y=false
structure CR (st st':SortSt)(pre all D T:List Keyed):Prop where
 sa:Sa st st'
 arr:(arrOf st').toList=pre++(D++T)
 perm:(D++T).Perm all
section
variable {M:Model}{Ar:Around}{E:Value→Shared→Prop}{s:Shared}{kd:SortKind}{S:Keyed→Prop}{L:Keyed→Keyed→Bool}
theorem Sa.arr {st st':SortSt}(h:Sa st st')(a:Array Keyed):Sa st (setArr st' a):=⟨h.kind,h.pend,h.failed⟩
theorem CR.get {st st':SortSt}{pre all D T:List Keyed}(h:CR st st' pre all D T){i:Nat}(hi:i<(D++T).length):(arrOf st')[pre.length+i]?=some (D++T)[i]:=by rw [← Array.getElem?_toList,h.arr,List.getElem?_append_right (by omega),show pre.length+i-pre.length=i by omega];exact List.getElem?_eq_getElem hi
theorem CR.ends {st st':SortSt}{pre all D T:List Keyed}{x y:Keyed}(h:CR st st' pre all (D++[y]) (x::T)){n:Nat}(hn:n=D.length+1):(arrOf st')[pre.length+n]?=some x∧(arrOf st')[pre.length+n-1]?=some y:=by
 subst hn;constructor
 · rw [← Array.getElem?_toList,h.arr,List.getElem?_append_right (by omega),show pre.length+(D.length+1)-pre.length=D.length+1 by omega,List.getElem?_append_right (by simp)]
   simp
 · rw [← Array.getElem?_toList,h.arr,List.getElem?_append_right (by omega),show pre.length+(D.length+1)-1-pre.length=D.length by omega,List.getElem?_append_left (by simp),List.getElem?_append_right (by omega)]
   simp
theorem Zi0 {D:List Keyed}(h:0<D.length):∃ D0 y,D=D0++[y]:=⟨D.dropLast,D.getLast (by intro e;rw [e] at h;simp at h),(List.dropLast_concat_getLast _).symm⟩
theorem ZjY (O:Ord S L){D0:List Keyed}{x y:Keyed}(sD:∀ z∈D0++[y],S z)(sx:S x)(r:Rise L (D0++[y]))(c:L x y=false):Rise L (D0++[y]++[x]):=by
 refine List.pairwise_append.mpr ⟨r,by simp,fun z hz w hw=>?_⟩;have hw:w=x:=by simpa using hw
 subst hw;rcases List.mem_append.mp hz with q | q
 · exact O.step (sD z hz) (sD y (by simp)) sx c ((List.pairwise_append.mp r).2.2 z q y (by simp))
 · have q:z=y:=by simpa using q
   rw [q];exact c
theorem ZjL (O:Ord S L){D0:List Keyed}{x y:Keyed}(sD:∀ z∈D0++[y],S z)(sx:S x)(r:Fall L (D0++[y]))(c:L y x=false):Fall L (D0++[y]++[x]):=by
 refine List.pairwise_append.mpr ⟨r,by simp,fun z hz w hw=>?_⟩;have hw:w=x:=by simpa using hw
 subst hw;rcases List.mem_append.mp hz with q | q
 · exact O.step sx (sD y (by simp)) (sD z hz) ((List.pairwise_append.mp r).2.2 z q y (by simp)) c
 · have q:z=y:=by simpa using q
   rw [q];exact c
theorem Zdv {D:List Keyed}(h:Fall L D):Rise L D.reverse:=List.pairwise_reverse.mpr h
theorem CR.next {st st':SortSt}{pre all D T:List Keyed}{x:Keyed}(h:CR st st' pre all D (x::T)):CR st st' pre all (D++[x]) T:=⟨h.sa,by rw [h.arr];simp,by have:=h.perm;simpa using this⟩
theorem CR.turn {st st':SortSt}{pre all D1 W T:List Keyed}(h:CR st st' pre all (D1++W) T):CR st (setArr st' (mirror (arrOf st') (pre.length+D1.length) (pre.length+D1.length+W.length) ((pre.length+D1.length+W.length-(pre.length+D1.length))/2))) pre all (D1++W.reverse) T:=by
 refine ⟨h.sa.arr _,?_,?_⟩
 · have e:(arrOf st').toList=(pre++D1)++(W++T):=by rw [h.arr];simp
   have:=ZhN e;rw [List.length_append] at this;show (mirror _ _ _ _).toList=_;rw [this];simp
 · refine List.Perm.trans ?_ h.perm
   exact (List.Perm.append_left _ (List.reverse_perm W)).append_right _
theorem Zdr (C:Cmp M Ar E s kd S L) {st st0:SortSt} {pre all D T:List Keyed} {n nrem:Nat} {f:Nat→Option (Option Nat) × Nat→StateT SortSt Sem (ForInStep (Option (Option Nat) × Nat))} {Q:Option (Option Nat) × Nat→SortSt→Prop} (hk:kindOf st=kd) (sS:∀ x∈all,S x)
   (h:CR st st0 pre all D T) (r:Rise L D) (hn:D.length=n) (nD:0<n) (hnr:n+T.length=nrem)
   (hf:∀ x c,f x c=(do
     let __x ← ltAt' (pre.length+c.2) (pre.length+c.2-1)
     match __x with
     | some smaller=>if smaller=true then pure (ForInStep.done (none,c.2)) else pure (ForInStep.yield (none,c.2+1))
     | _=>pure (ForInStep.done (some none,c.2))))
   (h2:∀ st' D' T' m,CR st st' pre all D' T'→Rise L D'→D'.length=m→n≤m→m+T'.length=nrem→(m=nrem∨∃ D0 y x T0,D'=D0++[y]∧T'=x::T0∧L x y=true)→Q (none,m) st') :
   wpS M Ar E s (forIn [n:nrem] ((none,n):Option (Option Nat) × Nat) f) Q st0:=by
 have O:=C.ord;refine wpS_forRange (I:=fun x c st'=>c.1=none∧c.2=x∧x≤nrem∧n≤x∧∃ D' T',CR st st' pre all D' T'∧Rise L D'∧D'.length=x∧x+T'.length=nrem) ?step ?fin ?init
 case init=>exact ⟨rfl,rfl,by omega,Nat.le_refl _,D,T,h,r,hn,hnr⟩
 case fin =>
   rintro ⟨c1,c2⟩ st' ⟨e1,e2,h3,h4,D',T',cr,r',hl,hT⟩;dsimp only at e1 e2;subst e1;rw [e2];exact h2 st' D' T' _ cr r' hl (by omega) (by omega) (.inl (by omega))
 case step =>
   rintro x ⟨c1,c2⟩ st' hx1 hx2 ⟨e1,e2,h3,h4,D',T',cr,r',hl,hT⟩;dsimp only at e1 e2;subst e1 e2;obtain ⟨D0,y,rfl⟩:=Zi0 (D:=D') (by omega);cases T' with
   | nil=>simp at hT;omega
   | cons z T0 =>
     have hl':c2=D0.length+1:=by rw [← hl];simp
     obtain ⟨g1,g2⟩:=cr.ends hl';have sall:∀ w∈D0++[y]++z::T0,S w:=fun w hw=>sS w (cr.perm.mem_iff.mp hw)
     have sz:S z:=sall z (by simp);have sy:S y:=sall y (by simp);rw [hf];refine wpS_bind (Zdu C (cr.sa.kind.trans hk) g1 g2 sz sy ?_);dsimp only;cases e:L z y with
     | true =>
       rw [if_pos rfl];exact wpS_pure (h2 st' _ _ _ cr r' hl (by omega) hT (.inr ⟨D0,y,z,T0,rfl,rfl,e⟩))
     | false =>
       rw [if_neg (by decide)];refine wpS_pure ⟨rfl,rfl,by omega,by omega,D0++[y]++[z],T0,cr.next,ZjY O (fun w hw=>sall w (List.mem_append_left _ hw)) sz r' e,?_,?_⟩
       · simp only [List.length_append,List.length_cons,List.length_nil] at hl ⊢
         omega
       · simp only [List.length_cons] at hT
         omega
structure Dn (L:Keyed→Keyed→Bool)(D:List Keyed)(neq:Nat):Prop where
 fall:Fall L D
 lt:neq<D.length
 same:∀ x∈D.drop (D.length-(neq+1)),∀ y∈D.drop (D.length-(neq+1)),L x y=false
theorem Dn.turn {D:List Keyed}{neq:Nat}(h:Dn L D neq):Fall L (D.take (D.length-(neq+1))++(D.drop (D.length-(neq+1))).reverse):=by have f:=h.fall;rw [← List.take_append_drop (D.length-(neq+1)) D] at f;obtain ⟨f1,f2,f3⟩:=List.pairwise_append.mp f;refine List.pairwise_append.mpr ⟨f1,?_,fun x hx y hy=>f3 x hx y (List.mem_reverse.mp hy)⟩;refine List.Pairwise.imp_of_mem (R:=fun _ _=>True) (fun {x y} hx hy _=>h.same x (List.mem_reverse.mp hx) y (List.mem_reverse.mp hy)) ?_;exact List.pairwise_of_forall fun _ _=>trivial
theorem ZbP {i j:Nat}{st:SortSt}{Q:Unit→SortSt→Prop}(h:Q () (setArr st (mirror (arrOf st) i j ((j-i)/2)))):wpS M Ar E s (reverseSlice' i j) Q st:=by rw [reverseSlice'_eq];exact wpS_modify h
theorem CR.turnEnd {st st':SortSt}{pre all D T:List Keyed}{neq n:Nat}(h:CR st st' pre all D T)(d:Dn L D neq)(hn:D.length=n) :
   CR st (setArr st' (mirror (arrOf st') (pre.length+n-(neq+1)) (pre.length+n) ((pre.length+n-(pre.length+n-(neq+1)))/2))) pre all (D.take (n-(neq+1))++(D.drop (n-(neq+1))).reverse) T:=by
 subst hn;have hl:=d.lt;have h':CR st st' pre all (D.take (D.length-(neq+1))++D.drop (D.length-(neq+1))) T:=by rw [List.take_append_drop];exact h
 have:=h'.turn;rw [List.length_take,List.length_drop,Nat.min_eq_left (by omega),show pre.length+(D.length-(neq+1))+(D.length-(D.length-(neq+1)))=pre.length+D.length by omega,show pre.length+(D.length-(neq+1))=pre.length+D.length-(neq+1) by omega] at this;exact this
theorem ZdK {D:List Keyed}{x:Keyed}{k:Nat}(h:k≤D.length):(D++[x]).drop ((D++[x]).length-(k+1))=D.drop (D.length-k)++[x]:=by rw [List.length_append,List.length_singleton,show D.length+1-(k+1)=D.length-k by omega,List.drop_append_of_le_length (by omega)]
theorem ZgG (C:Cmp M Ar E s kd S L) {st st0:SortSt} {pre all D T:List Keyed} {n nrem:Nat} {f:Nat→Option (Option Nat) × Nat × Nat→StateT SortSt Sem (ForInStep (Option (Option Nat) × Nat × Nat))} {Q:Option (Option Nat) × Nat × Nat→SortSt→Prop} (hk:kindOf st=kd) (sS:∀ x∈all,S x)
   (h:CR st st0 pre all D T) (r:Dn L D 0) (hn:D.length=n) (hnr:n+T.length=nrem)
   (hf : ∀ x c,f x c=(do
     let __x ← ltAt' (pre.length+c.2.1) (pre.length+c.2.1-1)
     match __x with
     | some smaller =>
       if smaller=true then
         if c.2.2 > 0 then do
           reverseSlice' (pre.length+c.2.1-(c.2.2+1)) (pre.length+c.2.1)
           pure (ForInStep.yield (none,c.2.1+1,0))
         else pure (ForInStep.yield (none,c.2.1+1,0))
       else do
         let __x ← ltAt' (pre.length+c.2.1-1) (pre.length+c.2.1)
         match __x with
         | some larger=>if larger=true then pure (ForInStep.done (none,c.2.1,c.2.2)) else pure (ForInStep.yield (none,c.2.1+1,c.2.2+1))
         | _=>pure (ForInStep.done (some none,c.2.1,c.2.2))
     | _=>pure (ForInStep.done (some none,c.2.1,c.2.2))))
   (h2:∀ st' D' T' m neq,CR st st' pre all D' T'→Dn L D' neq→D'.length=m→m+T'.length=nrem→Q (none,m,neq) st') :
   wpS M Ar E s (forIn [n:nrem] ((none,n,0):Option (Option Nat) × Nat × Nat) f) Q st0:=by
 have O:=C.ord;refine wpS_forRange (I:=fun x c st'=>c.1=none∧c.2.1=x∧x≤nrem∧∃ D' T',CR st st' pre all D' T'∧Dn L D' c.2.2∧D'.length=x∧x+T'.length=nrem) ?step ?fin ?init
 case init=>exact ⟨rfl,rfl,by omega,D,T,h,r,hn,hnr⟩
 case fin =>
   rintro ⟨c1,c2,c3⟩ st' ⟨e1,e2,h3,D',T',cr,r',hl,hT⟩;dsimp only at e1 e2 r';subst e1;exact h2 st' D' T' _ _ cr r' (hl.trans e2.symm) (by omega)
 case step =>
   rintro x ⟨c1,c2,c3⟩ st' hx1 hx2 ⟨e1,e2,h3,D',T',cr,dn,hl,hT⟩;dsimp only at e1 e2 dn;subst e1 e2;obtain ⟨D0,y,eD⟩:=Zi0 (D:=D') (by have:=dn.lt;omega);cases T' with
   | nil=>simp at hT;omega
   | cons z T0 =>
     have hl':c2=D0.length+1:=by rw [← hl,eD];simp
     have cr':=cr;rw [eD] at cr';obtain ⟨g1,g2⟩:=cr'.ends hl';have sall:∀ w∈D'++z::T0,S w:=fun w hw=>sS w (cr.perm.mem_iff.mp hw)
     have sz:S z:=sall z (by simp);have sy:S y:=sall y (by rw [eD];simp);have hle:=dn.lt;simp only [List.length_cons] at hT;rw [hf];refine wpS_bind (Zdu C (cr.sa.kind.trans hk) g1 g2 sz sy ?_);dsimp only;cases e:L z y with
     | true =>
       rw [if_pos rfl];have zl:∀ w∈D',L w z=false:=by
         intro w hw;have f:=dn.fall;rw [eD] at f hw;rcases List.mem_append.mp hw with q | q
         · exact O.step sz sy (sall w (by rw [eD];exact List.mem_append_left _ (List.mem_append_left _ q))) ((List.pairwise_append.mp f).2.2 w q y (by simp)) (O.asym _ _ e)
         · have q:w=y:=by simpa using q
           rw [q];exact O.asym _ _ e
       have mk:∀ D2:List Keyed,Fall L D2→(∀ w∈D2,L w z=false)→Dn L (D2++[z]) 0:=by
         intro D2 f2 z2;refine ⟨List.pairwise_append.mpr ⟨f2,by simp,fun w hw v hv=>?_⟩,by simp,fun u hu v hv=>?_⟩
         · have hv:v=z:=by simpa using hv
           rw [hv];exact z2 w hw
         · rw [ZdK (Nat.zero_le _),Nat.sub_zero,List.drop_of_length_le (Nat.le_refl _),List.nil_append] at hu hv
           have hu:u=z:=by simpa using hu
           have hv:v=z:=by simpa using hv
           rw [hu,hv];exact O.irr z
       by_cases hq:c3 > 0
       · rw [if_pos hq]
         have ct:=cr.turnEnd dn hl;refine wpS_bind (ZbP (wpS_pure ⟨rfl,rfl,by omega,_,T0,ct.next,mk _ (by have:=dn.turn;rw [hl] at this;exact this) (fun w hw=>zl w ?_),?_,by omega⟩))
         · rcases List.mem_append.mp hw with q | q
           · exact List.mem_of_mem_take q
           · exact List.mem_of_mem_drop (List.mem_reverse.mp q)
         · simp only [List.length_append,List.length_take,List.length_reverse,List.length_drop,List.length_cons,List.length_nil]
           omega
       · rw [if_neg hq]
         refine wpS_pure ⟨rfl,rfl,by omega,D'++[z],T0,cr.next,mk _ dn.fall zl,?_,by omega⟩;simp only [List.length_append,List.length_cons,List.length_nil];omega
     | false =>
       rw [if_neg (by decide)];refine wpS_bind (Zdu C (cr.sa.kind.trans hk) g2 g1 sy sz ?_);dsimp only;cases e':L y z with
       | true =>
         rw [if_pos rfl];exact wpS_pure (h2 st' _ _ _ _ cr dn hl (by simp only [List.length_cons];omega))
       | false =>
         rw [if_neg (by decide)];have yin:y∈D'.drop (D'.length-(c3+1)):=by rw [eD,List.length_append,List.length_singleton,List.drop_append_of_le_length (by omega)];simp
         refine wpS_pure ⟨rfl,rfl,by omega,D'++[z],T0,cr.next,⟨?_,by simp;omega,fun u hu v hv=>?_⟩,?_,by omega⟩
         · have f:=dn.fall
           rw [eD] at f ⊢;exact ZjL O (fun w hw=>sall w (by rw [eD];exact List.mem_append_left _ hw)) sz f e'
         · dsimp only at hu hv
           rw [ZdK (by omega)] at hu hv;have sD:∀ w∈D'.drop (D'.length-(c3+1)),S w:=fun w hw=>sall w (List.mem_append_left _ (List.mem_of_mem_drop hw))
           rcases List.mem_append.mp hu with q | q
           · rcases List.mem_append.mp hv with p | p
             · exact dn.same u q v p
             · have p:v=z:=by simpa using p
               rw [p];exact O.step sz sy (sD u q) (dn.same u q y yin) e'
           · have q:u=z:=by simpa using q
             rw [q];rcases List.mem_append.mp hv with p | p
             · exact O.step (sD v p) sy sz e (dn.same y yin v p)
             · have p:v=z:=by simpa using p
               rw [p];exact O.irr z
         · simp only [List.length_append,List.length_cons,List.length_nil]
           omega
theorem Zfd (C:Cmp M Ar E s kd S L) {st:SortSt} {pre all:List Keyed} {Q:Option Nat→SortSt→Prop} (hk:kindOf st=kd) (sS:∀ x∈all,S x) (e:(arrOf st).toList=pre++all) (ne:0<all.length)
   (h:∀ st' R T,Sa st st'→(arrOf st').toList=pre++(R++T)→Rise L R→(R++T).Perm all→0<R.length→Q (some R.length) st'):wpS M Ar E s (countRun' pre.length all.length) Q st:=by
 have O:=C.ord;rw [countRun'_eq];obtain ⟨x0,T0,rfl⟩:∃ x T,all=x::T:=by
   cases all with
   | nil=>simp at ne
   | cons x T=>exact ⟨x,T,rfl⟩
 have c0:CR st st pre (x0::T0) [x0] T0:=⟨⟨rfl,rfl,rfl⟩,e,List.Perm.refl _⟩
 dsimp only;refine wpS_bind (Zdr C hk sS c0 (by simp) rfl (by decide) (by simp;omega) (fun x c=>rfl) fun st1 D T m c1 r1 l1 m1 t1 w1=>?_);dsimp only;by_cases z1:(m==(x0::T0).length)=true
 · rw [if_pos z1,← l1]
   exact wpS_pure (h st1 D T c1.sa c1.arr r1 c1.perm (by omega))
 rw [if_neg z1];have z1':m≠(x0::T0).length:=by simpa using z1
 obtain ⟨D0,y,x,T1,eD,eT,hxy⟩:=w1.resolve_left z1';subst eD eT;have sall:∀ w∈D0++[y]++x::T1,S w:=fun w hw=>sS w (c1.perm.mem_iff.mp hw)
 have sx:S x:=sall x (by simp);have sD:∀ w∈D0++[y],S w:=fun w hw=>sall w (List.mem_append_left _ hw)
 have mk:∀ D2:List Keyed,Fall L D2→(∀ w∈D2,L w x=false)→Dn L (D2++[x]) 0:=by
   intro D2 f2 z2;refine ⟨List.pairwise_append.mpr ⟨f2,by simp,fun w hw v hv=>?_⟩,by simp,fun u hu v hv=>?_⟩
   · have hv:v=x:=by simpa using hv
     rw [hv];exact z2 w hw
   · rw [ZdK (Nat.zero_le _),Nat.sub_zero,List.drop_of_length_le (Nat.le_refl _),List.nil_append] at hu hv
     have hu:u=x:=by simpa using hu
     have hv:v=x:=by simpa using hv
     rw [hu,hv];exact O.irr x
 simp only [List.length_cons] at t1;by_cases z2:m > 1
 · rw [if_pos z2]
   have hD0:0<D0.length:=by simp only [List.length_append,List.length_cons,List.length_nil] at l1;omega
   have e0:(arrOf st1)[pre.length]?=some (D0[0]'hD0):=by have:=c1.get (i:=0) (by simp;omega);rw [Nat.add_zero] at this;rw [this,List.getElem_append_left (by simp),List.getElem_append_left hD0]
   have e1:(arrOf st1)[pre.length+m-1]?=some y:=by
     have hl':m=D0.length+1:=by rw [← l1];simp
     exact (c1.ends hl').2
   have s0:S (D0[0]'hD0):=sD _ (List.mem_append_left _ (List.getElem_mem hD0));refine wpS_bind (Zdu C (c1.sa.kind.trans hk) e0 e1 s0 (sD y (by simp)) ?_);dsimp only;cases er:L (D0[0]'hD0) y with
   | true =>
     rw [if_pos rfl,← l1];exact wpS_pure (h st1 _ _ c1.sa c1.arr r1 c1.perm (by omega))
   | false =>
     rw [if_neg (by decide)];have up0:∀ w∈D0++[y],L w (D0[0]'hD0)=false:=by
       intro w hw;obtain ⟨j,hj,rfl⟩:=List.mem_iff_getElem.mp hw;rcases Nat.eq_zero_or_pos j with q | q
       · subst q
         rw [List.getElem_append_left hD0];exact O.irr _
       · have:=ZbJ r1 q hj
         rw [List.getElem_append_left (i:=0) hD0] at this;exact this
     have upy:∀ w∈D0++[y],L y w=false:=by
       intro w hw;rcases List.mem_append.mp hw with q | q
       · exact (List.pairwise_append.mp r1).2.2 w q y (by simp)
       · have q:w=y:=by simpa using q
         rw [q];exact O.irr y
     have sy:S y:=sD y (by simp);have toy:∀ w∈D0++[y],L w y=false:=fun w hw=>O.step sy s0 (sD w hw) (up0 w hw) er
     have eqv:∀ w∈D0++[y],∀ v∈D0++[y],L w v=false:=fun w hw v hv=>O.step (sD v hv) sy (sD w hw) (toy w hw) (upy v hv)
     have xl:∀ w∈D0++[y],L w x=false:=fun w hw=>by
       rcases O.neg x w y sx (sD w hw) sy hxy with q | q
       · exact O.asym _ _ q
       · rw [toy w hw] at q
         cases q
     have cd0:=CR.turn (D1:=[]) (by simpa using c1);rw [List.length_nil,Nat.add_zero,l1] at cd0;have cd:=cd0.next;have dd:=mk ([]++(D0++[y]).reverse) (by
       rw [List.nil_append];refine List.Pairwise.imp_of_mem (R:=fun _ _=>True) (fun {u v} hu hv _=>eqv u (List.mem_reverse.mp hu) v (List.mem_reverse.mp hv)) ?_;exact List.pairwise_of_forall fun _ _=>trivial) (fun w hw=>xl w (by rw [List.nil_append] at hw;exact List.mem_reverse.mp hw))
     have ld:([]++(D0++[y]).reverse++[x]).length=m+1:=by rw [← l1];simp
     have hTd:m+1+T1.length=(x0::T0).length:=by simp only [List.length_cons] at t1 ⊢;omega
     refine wpS_bind (ZbP ?_);refine wpS_bind (wpS_lift (wpAny_rule ⟨rfl,?_⟩));refine wpS_bind (ZgG C hk sS cd dd ld hTd (fun x c=>rfl) fun st3 D3 T3 m3 neq c3 d3 l3 hT3=>?_);dsimp only;have p3:=d3.lt;by_cases hq:neq > 0
     · rw [if_pos hq]
       have ct:=c3.turnEnd d3 l3;have ft:=d3.turn;rw [l3] at ft;have lt3:(List.take (m3-(neq+1)) D3++(List.drop (m3-(neq+1)) D3).reverse).length=m3:=by simp only [List.length_append,List.length_take,List.length_reverse,List.length_drop];omega
       refine wpS_bind (ZbP ?_);have ct2:=CR.turn (D1:=[]) (by simpa using ct);rw [List.length_nil,Nat.add_zero,lt3] at ct2;refine wpS_bind (ZbP ?_);refine wpS_bind (Zdr C hk sS ct2 (by rw [List.nil_append];exact Zdv ft) (by simp only [List.nil_append,List.length_reverse];exact lt3) (by omega) hT3 (fun x c=>rfl) fun st5 D5 T5 m5 c5 r5 l5 n5 t5 w5=>?_);dsimp only;rw [← l5];exact wpS_pure (h st5 D5 T5 c5.sa c5.arr r5 c5.perm (by omega))
     · rw [if_neg hq]
       have ct:=c3;have ft:=d3.fall;have lt3:=l3;have ct2:=CR.turn (D1:=[]) (by simpa using ct);rw [List.length_nil,Nat.add_zero,lt3] at ct2;refine wpS_bind (ZbP ?_);refine wpS_bind (Zdr C hk sS ct2 (by rw [List.nil_append];exact Zdv ft) (by simp only [List.nil_append,List.length_reverse];exact lt3) (by omega) hT3 (fun x c=>rfl) fun st5 D5 T5 m5 c5 r5 l5 n5 t5 w5=>?_);dsimp only;rw [← l5];exact wpS_pure (h st5 D5 T5 c5.sa c5.arr r5 c5.perm (by omega))
 · rw [if_neg z2]
   have hD0:D0=[]:=by simp only [List.length_append,List.length_cons,List.length_nil] at l1;exact List.length_eq_zero_iff.mp (by omega)
   subst hD0;have cd:=c1.next;have dd:=mk ([]++[y]) (by simp) (fun w hw=>by
     have hw:w=y:=by simpa using hw
     rw [hw];exact O.asym _ _ hxy)
   have ld:([]++[y]++[x]).length=m+1:=by rw [← l1];simp
   have hTd:m+1+T1.length=(x0::T0).length:=by simp only [List.length_cons] at t1 ⊢;omega
   refine wpS_bind (wpS_lift (wpAny_rule ⟨rfl,?_⟩));refine wpS_bind (ZgG C hk sS cd dd ld hTd (fun x c=>rfl) fun st3 D3 T3 m3 neq c3 d3 l3 hT3=>?_);dsimp only;have p3:=d3.lt;by_cases hq:neq > 0
   · rw [if_pos hq]
     have ct:=c3.turnEnd d3 l3;have ft:=d3.turn;rw [l3] at ft;have lt3:(List.take (m3-(neq+1)) D3++(List.drop (m3-(neq+1)) D3).reverse).length=m3:=by simp only [List.length_append,List.length_take,List.length_reverse,List.length_drop];omega
     refine wpS_bind (ZbP ?_);have ct2:=CR.turn (D1:=[]) (by simpa using ct);rw [List.length_nil,Nat.add_zero,lt3] at ct2;refine wpS_bind (ZbP ?_);refine wpS_bind (Zdr C hk sS ct2 (by rw [List.nil_append];exact Zdv ft) (by simp only [List.nil_append,List.length_reverse];exact lt3) (by omega) hT3 (fun x c=>rfl) fun st5 D5 T5 m5 c5 r5 l5 n5 t5 w5=>?_);dsimp only;rw [← l5];exact wpS_pure (h st5 D5 T5 c5.sa c5.arr r5 c5.perm (by omega))
   · rw [if_neg hq]
     have ct:=c3;have ft:=d3.fall;have lt3:=l3;have ct2:=CR.turn (D1:=[]) (by simpa using ct);rw [List.length_nil,Nat.add_zero,lt3] at ct2;refine wpS_bind (ZbP ?_);refine wpS_bind (Zdr C hk sS ct2 (by rw [List.nil_append];exact Zdv ft) (by simp only [List.nil_append,List.length_reverse];exact lt3) (by omega) hT3 (fun x c=>rfl) fun st5 D5 T5 m5 c5 r5 l5 n5 t5 w5=>?_);dsimp only;rw [← l5];exact wpS_pure (h st5 D5 T5 c5.sa c5.arr r5 c5.perm (by omega))
end
end Srt
namespace Srt
open PySem PyProof.Rows
def Pd (L:Keyed→Keyed→Bool):Nat→List (Nat × Nat × Nat)→List (List Keyed)→Prop
 | _,[],[]=>True
 | off,p::ps,R::rs=>p.1=off∧p.2.1=R.length∧0<R.length∧Rise L R∧Pd L (off+R.length) ps rs
 | _,_,_=>False
section
variable {S:Keyed→Prop}{L:Keyed→Keyed→Bool}
theorem Pd.len:∀ {off:Nat} {ps:List (Nat × Nat × Nat)} {rs:List (List Keyed)},Pd L off ps rs→ps.length=rs.length
 | _,[],[],_=>rfl
 | _,_::_,_::_,h=>by simp [Pd.len h.2.2.2.2]
 | _,[],_::_,h=>h.elim
 | _,_::_,[],h=>h.elim
theorem Pd.append:∀ {off:Nat} {ps qs:List (Nat × Nat × Nat)} {rs ts:List (List Keyed)},Pd L off ps rs→Pd L (off+rs.flatten.length) qs ts→Pd L off (ps++qs) (rs++ts)
 | _,[],_,[],_,_,h=>by simpa using h
 | _,_::_,_,_::_,_,h,h2=>⟨h.1,h.2.1,h.2.2.1,h.2.2.2.1,Pd.append h.2.2.2.2 (by simpa [Nat.add_assoc] using h2)⟩
 | _,[],_,_::_,_,h,_=>h.elim
 | _,_::_,_,[],_,h,_=>h.elim
theorem Pd.split:∀ {off:Nat} {ps:List (Nat × Nat × Nat)} (rs:List (List Keyed)) {ts:List (List Keyed)},Pd L off ps (rs++ts)→∃ p1 p2,ps=p1++p2∧Pd L off p1 rs∧Pd L (off+rs.flatten.length) p2 ts
 | _,ps,[],_,h=>⟨[],ps,rfl,trivial,by simpa using h⟩
 | _,p::ps,R::rs,_,h=>by
   obtain ⟨p1,p2,e,h1,h2⟩:=Pd.split rs h.2.2.2.2;exact ⟨p::p1,p2,by rw [e];rfl,⟨h.1,h.2.1,h.2.2.1,h.2.2.2.1,h1⟩,by simpa [Nat.add_assoc] using h2⟩
 | _,[],_::_,_,h=>h.elim
theorem Pd.pos:∀ {off:Nat} {ps:List (Nat × Nat × Nat)} {rs:List (List Keyed)},Pd L off ps rs→rs.length≤rs.flatten.length
 | _,[],[],_=>by simp
 | _,_::_,R::rs,h=>by
   have:=Pd.pos h.2.2.2.2;have:=h.2.2.1;simp only [List.flatten_cons,List.length_append,List.length_cons];omega
 | _,[],_::_,h=>h.elim
 | _,_::_,[],h=>h.elim
structure SI (L:Keyed→Keyed→Bool)(kd:SortKind)(all:List Keyed)(st:SortSt)(runs:List (List Keyed))(T:List Keyed):Prop where
 arr:(arrOf st).toList=runs.flatten++T
 perm:(runs.flatten++T).Perm all
 pend:Pd L 0 (pendingOf st).toList runs
 kind:kindOf st=kd
 failed:failedOf st=none
theorem split_at {α:Type}{l:List α}{i:Nat}(h:i+1<l.length):∃ l1 a b l2,l=l1++(a::b::l2)∧l1.length=i:=by refine ⟨l.take i,l[i],l[i+1],l.drop (i+2),?_,by rw [List.length_take];omega⟩;rw [← List.drop_eq_getElem_cons (by omega),← List.drop_eq_getElem_cons (by omega),List.take_append_drop]
end
section
variable {M:Model}{Ar:Around}{E:Value→Shared→Prop}{s:Shared}{kd:SortKind}{S:Keyed→Prop}{L:Keyed→Keyed→Bool}
theorem ZbU (C:Cmp M Ar E s kd S L){all:List Keyed}{st:SortSt}{runs:List (List Keyed)}{T:List Keyed}{i:Nat}{Q:Bool→SortSt→Prop}(sS:∀ x∈all,S x)(h:SI L kd all st runs T)(hi:i+1<runs.length)
   (q:∀ st' runs',SI L kd all st' runs' T→runs'.length+1=runs.length→runs'.flatten.length=runs.flatten.length→Q true st'):wpS M Ar E s (mergeAt' i) Q st:=by
 obtain ⟨r1,A,B,r2,er,hl⟩:=split_at hi;subst er;obtain ⟨p1,p2,ep,d1,d2⟩:=Pd.split r1 h.pend;have lp:=d1.len;obtain ⟨a,b,p3,rfl⟩:∃ a b p3,p2=a::b::p3:=by
   have:=d2.len
   match p2,this with
   | a::b::p3,_=>exact ⟨a,b,p3,rfl⟩
   | [],e=>simp at e
   | [_],e=>simp at e
 obtain ⟨a1,a2,a3,a4,b1,b2,b3,b4,d3⟩:=d2;rw [Nat.zero_add] at a1 b1 d3;obtain ⟨as_,an,apw⟩:=a;obtain ⟨bs_,bn,bpw⟩:=b;dsimp only at a1 a2 b1 b2;subst a1 a2 b1 b2;have hpa:(pendingOf st)[i]?=some (r1.flatten.length,A.length,apw):=by rw [← Array.getElem?_toList,ep,List.getElem?_append_right (by omega),show i-p1.length=0 by omega];rfl
 have hpb:(pendingOf st)[i+1]?=some (r1.flatten.length+A.length,B.length,bpw):=by rw [← Array.getElem?_toList,ep,List.getElem?_append_right (by omega),show i+1-p1.length=1 by omega];rfl
 have earr:(arrOf st).toList=r1.flatten++(A++(B++(r2.flatten++T))):=by rw [h.arr];simp
 refine ZhQ C h.kind h.failed (fun x hx=>sS x (h.perm.mem_iff.mp (by rw [← h.arr];exact hx))) ⟨earr,⟨_,hpa⟩,⟨_,hpb⟩,a4,b4,a3,b3⟩ fun st' R pw k' f' ar' rR pR pe'=>?_
 refine q st' (r1++(R::r2)) ⟨?_,?_,?_,k',f'⟩ ?_ ?_
 · rw [ar']
   simp
 · refine List.Perm.trans ?_ h.perm
   simp only [List.flatten_append,List.flatten_cons,List.append_assoc];refine List.Perm.append_left _ ?_;rw [← List.append_assoc A];exact pR.append_right _
 · rw [pe']
   have lR:R.length=A.length+B.length:=by rw [pR.length_eq,List.length_append]
   have ee:(((pendingOf st).setIfInBounds i (r1.flatten.length,A.length+B.length,pw)).eraseIdxIfInBounds (i+1)).toList=p1++((r1.flatten.length,A.length+B.length,pw)::p3):=by
     have sz:(pendingOf st).size=p1.length+(p3.length+2):=by rw [← Array.length_toList,ep];simp
     rw [Array.eraseIdxIfInBounds,dif_pos (by rw [Array.size_setIfInBounds];omega)];have hp1:p1.length=i:=lp.trans hl;rw [Array.toList_eraseIdx,Array.toList_setIfInBounds,ep,List.set_append_right _ _ (by omega),show i-p1.length=0 by omega,List.set_cons_zero,List.eraseIdx_append_of_length_le (by omega),show i+1-p1.length=1 by omega];rfl
   rw [ee];refine Pd.append d1 ?_;rw [Nat.zero_add];exact ⟨rfl,lR.symm,by show 0<R.length;omega,rR,by rw [lR,← Nat.add_assoc];exact d3⟩
 · simp only [List.length_append,List.length_cons]
   omega
 · simp only [List.flatten_append,List.flatten_cons,List.length_append,pR.length_eq]
   omega
theorem ZhS (p:Prop)[Decidable p](a:Nat):(if p then a-1 else a)≤a:=by split<;>omega
theorem SI.setLast {all:List Keyed} {st:SortSt} {runs:List (List Keyed)} {T:List Keyed} (h:SI L kd all st runs T) (pw:Nat):SI L kd all (setPending st ((pendingOf st).modify ((pendingOf st).size-1) fun (s1,len,_)=>(s1,len,pw))) runs T:=by
 refine ⟨h.arr,h.perm,?_,h.kind,h.failed⟩;show Pd L 0 ((pendingOf st).modify _ _).toList runs;rw [Array.toList_modify];generalize (pendingOf st).size-1=j;have:∀ (ps:List (Nat × Nat × Nat)) (rs:List (List Keyed)) (off j:Nat),Pd L off ps rs→Pd L off (ps.modify j fun (s1,len,_)=>(s1,len,pw)) rs:=by
   intro ps;induction ps with
   | nil=>intro rs off j h;simpa using h
   | cons p ps ih =>
     intro rs off j h;cases rs with
     | nil=>exact h.elim
     | cons R rs =>
       obtain ⟨p0,p1,p2⟩:=p;cases j with
       | zero=>exact h
       | succ j=>exact ⟨h.1,h.2.1,h.2.2.1,h.2.2.2.1,ih rs _ j h.2.2.2.2⟩
 exact this _ _ _ _ h.pend
theorem SI.push {all:List Keyed}{st st':SortSt}{runs:List (List Keyed)}{R T:List Keyed}(pe:Pd L 0 (pendingOf st').toList runs)(k:kindOf st'=kd)(f:failedOf st'=none)(ar:(arrOf st').toList=runs.flatten++(R++T))(pm:(runs.flatten++(R++T)).Perm all)(rR:Rise L R)(nR:0<R.length){lo n:Nat}
   (hlo:lo=runs.flatten.length) (hn:n=R.length):SI L kd all (setPending st' ((pendingOf st').push (lo,n,0))) (runs++[R]) T:=by
 subst hlo hn;refine ⟨?_,?_,?_,k,f⟩
 · show (arrOf st').toList=_
   rw [ar];simp
 · have e:(runs++[R]).flatten++T=runs.flatten++(R++T):=by simp
   rw [e];exact pm
 · show Pd L 0 ((pendingOf st').push _).toList _
   rw [Array.toList_push];exact Pd.append pe ⟨by simp,rfl,nR,rR,trivial⟩
theorem Ze7 (C:Cmp M Ar E s kd S L) {all:List Keyed} {st:SortSt} {Q:Unit→SortSt→Prop} (sS:∀ x∈all,S x) (k:kindOf st=kd) (f:failedOf st=none) (pe:pendingOf st=#[]) (ar:(arrOf st).toList=all)
   (h:∀ st',failedOf st'=none→(arrOf st').toList.Perm all→Rise L (arrOf st').toList→Q () st'):wpS M Ar E s sortRuns' Q st:=by
 have h0:SI L kd all st [] all:=⟨by simpa using ar,by simp,by rw [pe];trivial,k,f⟩
 have sz:(arrOf st).size=all.length:=by rw [← Array.length_toList,ar]
 rw [sortRuns'_eq];refine wpS_bind (wpS_get ?_);dsimp only;rw [sz];generalize minRun' all.length all.length 0=mr;refine wpS_bind (wpS_mono (wpS_forRange (I:=fun x c st'=>c.1=none∧x≤c.2∧∃ runs T,SI L kd all st' runs T∧runs.flatten.length=c.2)
   (Q:=fun c st'=>c.1=none∧∃ runs,SI L kd all st' runs []) ?step ?fin ?init) ?post)
 case init=>exact ⟨rfl,Nat.zero_le _,[],all,h0,rfl⟩
 case fin =>
   rintro ⟨c1,lo⟩ st' ⟨e1,hx,runs,T,si,hl⟩;refine ⟨e1,runs,?_⟩;dsimp only at hx hl;have:=si.perm.length_eq;rw [List.length_append] at this;have hT:T=[]:=List.length_eq_zero_iff.mp (by omega);subst hT;exact si
 case post =>
   rintro ⟨c1,lo⟩ st' ⟨e1,runs,si⟩;dsimp only at e1 ⊢;subst e1;dsimp only;refine wpS_bind (wpS_mono (wpS_forRange (I:=fun x c st'=>c.1=none∧∃ runs,SI L kd all st' runs []∧(runs.length+x≤all.length∨runs.length≤1)) (Q:=fun c st'=>c.1=none∧∃ runs,SI L kd all st' runs []∧runs.length≤1) ?step5 ?fin5 ?init5) ?post5)
   case init5 =>
     refine ⟨rfl,runs,si,.inl ?_⟩;have h1:=si.pend.pos;have h2:=si.perm.length_eq;rw [List.append_nil] at h2;omega
   case fin5 =>
     rintro ⟨c1,u⟩ st' ⟨e1,runs,si,hr⟩;refine ⟨e1,runs,si,?_⟩;omega
   case post5 =>
     rintro ⟨c1,u⟩ st' ⟨e1,runs,si,hr⟩;dsimp only at e1;subst e1;have e2:=si.arr;rw [List.append_nil] at e2;refine wpS_pure (h st' si.failed ?_ ?_)
     · have:=si.perm
       rw [List.append_nil] at this;rw [e2];exact this
     · rw [e2]
       have pd:=si.pend
       match runs,hr,pd with
       | [],_,_=>simp
       | [R],_,pd =>
         match hq:(pendingOf st').toList,pd with
         | p::ps,pd=>simpa using pd.2.2.2.1
         | [],pd=>exact pd.elim
   case step5 =>
     rintro x ⟨c1,u⟩ st' _ hx ⟨e1,runs,si,hr⟩;dsimp only at e1;subst e1;have pl:(pendingOf st').size=runs.length:=by rw [← Array.length_toList];exact si.pend.len
     refine wpS_bind (wpS_get ?_);by_cases z:(pendingOf st').size≤1
     · rw [if_pos z]
       exact wpS_pure ⟨rfl,runs,si,by omega⟩
     · rw [if_neg z]
       refine wpS_bind (ZbU C sS si (Nat.lt_of_le_of_lt (Nat.add_le_add_right (ZhS _ _) 1) (by omega)) fun st4 runs4 si4 hl4 _=>?_);simp only [Bool.not_true,Bool.false_eq_true,if_false];exact wpS_pure ⟨rfl,runs4,si4,by omega⟩
 case step =>
   rintro x ⟨c1,lo⟩ st' _ hx ⟨e1,hxl,runs,T,si,hl⟩;dsimp only at e1 hxl hl ⊢;subst e1;by_cases z:lo≥all.length
   · rw [if_pos z]
     refine wpS_pure ⟨rfl,runs,?_⟩;have:=si.perm.length_eq;rw [List.length_append] at this;have hT:T=[]:=List.length_eq_zero_iff.mp (by omega);subst hT;exact si
   · rw [if_neg z]
     have lT:all.length-lo=T.length:=by have:=si.perm.length_eq;rw [List.length_append] at this;omega
     rw [lT];have nT:0<T.length:=by omega
     have sT:∀ x∈T,S x:=fun x hx=>sS x (si.perm.mem_iff.mp (List.mem_append_right _ hx))
     have cnt:=fun {Q:Option Nat→SortSt→Prop}=>Zfd (Q:=Q) (M:=M) (Ar:=Ar) (E:=E) (s:=s) C (st:=st') (pre:=runs.flatten) (all:=T) si.kind sT si.arr nT
     rw [hl] at cnt;refine wpS_bind (cnt fun st1 R1 T1 sa1 ar1 rR1 pR1 nR1=>?_);dsimp only;have pm1:(runs.flatten++(R1++T1)).Perm all:=(List.Perm.append_left _ pR1).trans si.perm;have l1:R1.length+T1.length=T.length:=by rw [← List.length_append];exact pR1.length_eq
     by_cases z2:R1.length<mr
     · rw [if_pos z2]
       refine wpS_bind (wpS_lift (wpAny_rule ⟨rfl,?_⟩));have hk:min T.length mr=R1.length+(T1.take (min T.length mr-R1.length)).length:=by rw [List.length_take];omega
       have bs:=fun {Q:Bool→SortSt→Prop}=>Zii (Q:=Q) (M:=M) (Ar:=Ar) (E:=E) (s:=s) C (st:=st1) (pre:=runs.flatten) (A:=R1) (U:=T1.take (min T.length mr-R1.length)) (post:=T1.drop (min T.length mr-R1.length)) (sa1.kind.trans si.kind)
         (fun x hx=>sT x (pR1.mem_iff.mp (by
           rcases List.mem_append.mp hx with q | q
           · exact List.mem_append_left _ q
           · exact List.mem_append_right _ (List.mem_of_mem_take q)))) (by rw [List.take_append_drop];exact ar1) rR1 nR1
       rw [hl,← hk] at bs;refine wpS_bind (bs fun st2 R sa2 ar2 rR pR=>?_);simp only [Bool.not_true,Bool.false_eq_true,if_false];have hn:min T.length mr=R.length:=by rw [pR.length_eq,List.length_append];exact hk
       have nR:0<R.length:=by omega
       generalize hT2:T1.drop (min T.length mr-R1.length)=T2 at *;have si2:SI L kd all st2 runs (R++T2):=by refine ⟨ar2,?_,by rw [sa2.pend,sa1.pend];exact si.pend,sa2.kind.trans (sa1.kind.trans si.kind),sa2.failed.trans (sa1.failed.trans si.failed)⟩;refine List.Perm.trans (List.Perm.append_left _ ?_) pm1;refine (pR.append_right _).trans ?_;rw [List.append_assoc,← hT2,List.take_append_drop]
       generalize hnn:min T.length mr=nn at *;refine wpS_bind (wpS_get ?_);cases eb:(pendingOf st2).back? with
       | none =>
         dsimp only;refine wpS_bind (wpS_modify (wpS_pure ⟨rfl,by dsimp only;omega,_,T2,SI.push (st:=st2) si2.pend si2.kind si2.failed si2.arr si2.perm rR nR hl.symm hn,?_⟩));simp only [List.flatten_append,List.flatten_cons,List.flatten_nil,List.append_nil,List.length_append];omega
       | some p =>
         obtain ⟨s1,n1,w1⟩:=p;dsimp only;refine wpS_bind (wpS_mono (wpS_forRange (I:=fun _ c st3=>c.1=none∧∃ runs3,SI L kd all st3 runs3 (R++T2)∧runs3.flatten.length=lo) (Q:=fun c st3=>c.1=none∧∃ runs3,SI L kd all st3 runs3 (R++T2)∧runs3.flatten.length=lo) ?stepm (fun _ _ z=>z) ?initm) ?postm)
         case initm=>exact ⟨rfl,runs,si2,hl⟩
         case stepm =>
           rintro y ⟨c1,u⟩ st3 _ _ ⟨e3,runs3,si3,hl3⟩;dsimp only at e3;subst e3;refine wpS_bind (wpS_get ?_);have pl:(pendingOf st3).size=runs3.length:=by rw [← Array.length_toList];exact si3.pend.len
           split
           next older he =>
             split
             · exact wpS_pure ⟨rfl,runs3,si3,hl3⟩
             · have h1:(pendingOf st3).size > 1:=by
                 by_cases hz:(pendingOf st3).size > 1
                 · exact hz
                 · rw [if_neg hz] at he
                   cases he
               refine wpS_bind (ZbU C sS si3 (by omega) fun st4 runs4 si4 _ hf4=>?_);simp only [Bool.not_true,Bool.false_eq_true,if_false];exact wpS_pure ⟨rfl,runs4,si4,hf4.trans hl3⟩
           next=>exact wpS_pure ⟨rfl,runs3,si3,hl3⟩
         case postm =>
           rintro ⟨c1,u⟩ st3 ⟨e3,runs3,si3,hl3⟩;dsimp only at e3;subst e3;dsimp only;refine wpS_bind (wpS_modify ?_);have si4:=si3.setLast (power' all.length (2*s1+n1) (2*s1+n1+n1+nn) all.length);refine wpS_bind (wpS_modify (wpS_pure ⟨rfl,by dsimp only;omega,_,T2,SI.push (st:=st3) si4.pend si4.kind si4.failed si4.arr si4.perm rR nR hl3.symm hn,?_⟩));simp only [List.flatten_append,List.flatten_cons,List.flatten_nil,List.append_nil,List.length_append];omega
     · rw [if_neg z2]
       have si2:SI L kd all st1 runs (R1++T1):=⟨ar1,pm1,by rw [sa1.pend];exact si.pend,sa1.kind.trans si.kind,sa1.failed.trans si.failed⟩
       have rR:=rR1;have nR:=nR1;obtain ⟨nn,hn⟩:∃ nn,nn=R1.length:=⟨_,rfl⟩
       rw [← hn];refine wpS_bind (wpS_get ?_);cases eb:(pendingOf st1).back? with
       | none =>
         dsimp only;refine wpS_bind (wpS_modify (wpS_pure ⟨rfl,by dsimp only;omega,_,T1,SI.push (st:=st1) si2.pend si2.kind si2.failed si2.arr si2.perm rR nR hl.symm hn,?_⟩));simp only [List.flatten_append,List.flatten_cons,List.flatten_nil,List.append_nil,List.length_append];omega
       | some p =>
         obtain ⟨s1,n1,w1⟩:=p;dsimp only;refine wpS_bind (wpS_mono (wpS_forRange (I:=fun _ c st3=>c.1=none∧∃ runs3,SI L kd all st3 runs3 (R1++T1)∧runs3.flatten.length=lo) (Q:=fun c st3=>c.1=none∧∃ runs3,SI L kd all st3 runs3 (R1++T1)∧runs3.flatten.length=lo) ?stepm (fun _ _ z=>z) ?initm) ?postm)
         case initm=>exact ⟨rfl,runs,si2,hl⟩
         case stepm =>
           rintro y ⟨c1,u⟩ st3 _ _ ⟨e3,runs3,si3,hl3⟩;dsimp only at e3;subst e3;refine wpS_bind (wpS_get ?_);have pl:(pendingOf st3).size=runs3.length:=by rw [← Array.length_toList];exact si3.pend.len
           split
           next older he =>
             split
             · exact wpS_pure ⟨rfl,runs3,si3,hl3⟩
             · have h1:(pendingOf st3).size > 1:=by
                 by_cases hz:(pendingOf st3).size > 1
                 · exact hz
                 · rw [if_neg hz] at he
                   cases he
               refine wpS_bind (ZbU C sS si3 (by omega) fun st4 runs4 si4 _ hf4=>?_);simp only [Bool.not_true,Bool.false_eq_true,if_false];exact wpS_pure ⟨rfl,runs4,si4,hf4.trans hl3⟩
           next=>exact wpS_pure ⟨rfl,runs3,si3,hl3⟩
         case postm =>
           rintro ⟨c1,u⟩ st3 ⟨e3,runs3,si3,hl3⟩;dsimp only at e3;subst e3;dsimp only;refine wpS_bind (wpS_modify ?_);have si4:=si3.setLast (power' all.length (2*s1+n1) (2*s1+n1+n1+nn) all.length);refine wpS_bind (wpS_modify (wpS_pure ⟨rfl,by dsimp only;omega,_,T1,SI.push (st:=st3) si4.pend si4.kind si4.failed si4.arr si4.perm rR nR hl3.symm hn,?_⟩));simp only [List.flatten_append,List.flatten_cons,List.flatten_nil,List.append_nil,List.length_append];omega
end
end Srt
namespace Srt
open PySem PyProof.Rows
abbrev SInt (p:Keyed):Prop:=∃ n t,p.1=.int n t
abbrev LInt (x y:Keyed):Bool:=decide (numOf x.1<numOf y.1)
section
variable {prog:Program}{w:World}{Ar:Around}{E:Value→Shared→Prop}{s:Shared}
theorem cmp_int:Cmp (model prog w) Ar E s oneType' SInt LInt where
 lt:=fun x y st Q hx hy hk h=>by
   obtain ⟨x1,x2⟩:=x;obtain ⟨y1,y2⟩:=y;obtain ⟨n,t,ex⟩:=hx;obtain ⟨m,u,ey⟩:=hy;dsimp only at ex ey;subst ex ey;rw [lt'_eq];refine wpS_bind (wpS_get ?_);rw [hk,keyLt'_oneType];exact wpS_bind (wpS_lift (wpAny_attempt (oneLt_int ⟨rfl,wpS_pure h⟩)))
 asym:=fun x y h=>by
   have h:numOf x.1<numOf y.1:=by simpa using h
   simp;omega
 neg:=fun x y z _ _ _ h=>by
   have h:numOf x.1<numOf z.1:=by simpa using h
   simp;omega
theorem sort_ints {a:Addr} {vs:List Value} {ns:List Int} {n:Nat} {P:Fin→Shared→Prop} (ho:s.heap.get? a=some (seqObj "list" vs.toArray n)) (hI:IntsAre vs ns) (hz:vs.length≤sizeLine)
   (h:∀ (out:Array Value) (ns':List Int),IntsAre out.toList ns'→ns'.Perm ns→ns'.Pairwise (·≤·)→P (.done (.ret .none)) { s with heap:=sortedHeap s.heap a vs out }) :
   wpAny (model prog w) Ar (Builtin.«list.sort» ⟨[.ref a],[]⟩) P E s:=by
 rw [list_sort_plain];have la:a<s.heap.objs.size:=Heap.lt_size ho;refine wpAny_bind (listItems_at ho rfl (wpAny_bind (listUpdate_at ho rfl ?_ (hsz:=by simpa using hz))));obtain ⟨e1,h1⟩:∃ e1,(s.heap.update a (Obj.mapSeq fun _=>#[])).get? a=some (seqObj "list" #[] e1):=⟨_,get?_update_seq ho (fun _=>#[])⟩
 refine wpAny_bind (seqEpoch_at h1 rfl (wpAny_bind (wpAny_newTuple ?_ (by simpa using hz))));refine wpAny_bind (wpAny_newList (wpAny_holding ?_));have h6:(((s.heap.update a (Obj.mapSeq fun _=>#[])).push (seqObj "tuple" vs.toArray 0)).push (seqObj "list" #[] 0)).get? a=some (seqObj "list" #[] e1) :=
   Heap.get?_push_of_some _ (Heap.get?_push_of_some _ h1)
 show wpAny (model prog w) Ar _ P E { s with heap:=((s.heap.update a (Obj.mapSeq fun _=>#[])).push (seqObj "tuple" vs.toArray 0)).push (seqObj "list" #[] 0) };dsimp only;have pz:(pairsOf vs).size=vs.length:=pairsOf_size vs;have done:∀ st':SortSt,(arrOf st').toList.Perm (pairsOf vs).toList→Rise LInt (arrOf st').toList→P (.done (.ret .none)) { s with heap:=sortedHeap s.heap a vs ((arrOf st').map (·.2)) }:=by
   intro st' hp hs;have hp':(arrOf st').Perm (pairsOf vs):=Array.perm_iff_toList_perm.mpr hp;obtain ⟨ns',g1,g2,g3⟩:=sorted_out hI hp' (fun i j hij hj=>by
     have hj':j<(arrOf st').size:=by rw [hp'.size_eq];exact hj
     rw [K_eq (by omega),K_eq hj'];rcases Nat.lt_or_ge i j with q | q
     · have:=List.pairwise_iff_getElem.mp hs i j (by simp;omega) (by simpa using hj') q
       simp at this;exact this
     · have:i=j:=by omega
       subst this;exact Int.le_refl _)
   exact h _ ns' g1 g2 g3
 by_cases h2:vs.toArray.size<2
 · rw [if_pos h2,if_pos h2]
   refine wpAny_bind (wpAny_pure ?_);rw [StateT.run_pure];refine wpAny_bind (wpAny_pure ?_);dsimp only;refine wpAny_bind (seqEpoch_at h6 rfl (wpAny_bind (listUpdate_at h6 rfl ?_ (hsz2:=?_))))
   · simp only [bne_self_eq_false,Bool.false_eq_true,if_false]
     refine wpAny_pure (done (SortSt.mk' general' (pairsOf vs) #[] 7 none) (List.Perm.refl _) ?_);show Rise LInt (pairsOf vs).toList;have hl:(pairsOf vs).toList.length<2:=by rw [Array.length_toList,pz];simpa using h2
     match (pairsOf vs).toList,hl with
     | [],_=>simp
     | [_],_=>simp
     | _::_::_,hl=>simp at hl;omega
   · rw [Array.size_map]
     exact Nat.le_trans (Nat.le_of_eq pz) (Nat.le_succ_of_le hz)
 · rw [if_neg h2,if_neg h2]
   obtain ⟨v1,v2,rest,ev⟩:∃ v1 v2 rest,vs=v1::v2::rest:=by
     match vs,h2 with
     | [],h2=>simp at h2
     | [_],h2=>simp at h2
     | v1::v2::rest,_=>exact ⟨v1,v2,rest,rfl⟩
   have kk:keyKind' vs.toArray=pure oneType':=by subst ev;exact keyKind_ints hI
   rw [kk];refine wpAny_bind (wpAny_pure ?_);refine wpAny_bind (wpAny_mono (Ze7 (all:=(pairsOf vs).toList) (st:=SortSt.mk' oneType' (pairsOf vs) #[] 7 none) (Q:=fun _ st'=>(arrOf st').toList.Perm (pairsOf vs).toList∧failedOf st'=none∧Rise LInt (arrOf st').toList)
     cmp_int hI.intKeys rfl rfl rfl rfl fun st' f1 p1 r1=>⟨p1,f1,r1⟩) ?_ fun _ _ e=>e)
   rintro ⟨⟨⟩,st'⟩ s' ⟨rfl,hp,hf,hr⟩;dsimp only;refine wpAny_bind (seqEpoch_at h6 rfl (wpAny_bind (listUpdate_at h6 rfl ?_ (hsz2:=?_))))
   · rw [hf]
     simp only [bne_self_eq_false,Bool.false_eq_true,if_false];exact wpAny_pure (done st' hp hr)
   · rw [Array.size_map,← Array.length_toList,hp.length_eq,Array.length_toList]
     exact Nat.le_trans (Nat.le_of_eq pz) (Nat.le_succ_of_le hz)
end
end Srt
namespace L2
open PySem PySem.Spec PyProof.Rows
section
variable {X:Cx}
theorem boot_sorted:bootBuiltins "sorted"=some (.builtin "sorted"):=by decide +kernel
end
end L2
namespace Srt
open PySem PyProof.Rows PySem.W
section
variable {prog:Program}{w:World}{Ar:Around}{E:Value→Shared→Prop}{s:Shared}
end
end Srt
namespace L2
open PySem PySem.Spec PyProof.Rows
section
variable {X:Cx}
end
end L2
namespace SG
open PySem PySem.Spec PyProof.Rows
def Ris (xs:Array Nat):Prop:=∀ i j (hj:j<xs.size) (h:i<j),xs[i]<xs[j]
theorem Ris.le {xs:Array Nat}(r:Ris xs){i j:Nat}(hj:j<xs.size)(h:i≤j):xs[i]≤xs[j]:=by
 rcases Nat.lt_or_ge i j with q | q
 · exact Nat.le_of_lt (r i j hj q)
 · have:i=j:=Nat.le_antisymm h q
   subst this;exact Nat.le_refl _
theorem go_ok {xs:Array Nat} (r:Ris xs) (j:Nat):∀ (n lo hi:Nat),hi-lo≤n→lo≤hi→hi≤xs.size→(∀ i (h:i<xs.size),i<lo→xs[i]<j)→(∀ i (h:i<xs.size),hi≤i→j≤xs[i]) →
   (∀ i (h:i<xs.size),i<SetTable.below.go xs j n lo hi→xs[i]<j)∧(∀ i (h:i<xs.size),SetTable.below.go xs j n lo hi≤i→j≤xs[i])∧SetTable.below.go xs j n lo hi≤xs.size
 | 0,lo,hi,hn,h1,h2,a,b=>by
   have e:lo=hi:=by omega
   subst e;unfold SetTable.below.go;exact ⟨a,b,h2⟩
 | n + 1,lo,hi,hn,h1,h2,a,b=>by
   unfold SetTable.below.go;by_cases q:lo<hi
   · rw [if_pos q]
     have hm:(lo+hi)/2<xs.size:=by omega
     have eg:xs.getD ((lo+hi)/2) j=xs[(lo+hi)/2]:=by simp [Array.getD,hm]
     dsimp only;rw [eg];by_cases c:xs[(lo+hi)/2]<j
     · rw [if_pos c]
       refine go_ok r j n ((lo+hi)/2+1) hi (by omega) (by omega) h2 (fun i h hi'=>?_) b;exact Nat.lt_of_le_of_lt (r.le hm (by omega)) c
     · rw [if_neg c]
       refine go_ok r j n lo ((lo+hi)/2) (by omega) (by omega) (by omega) a (fun i h hi'=>?_);exact Nat.le_trans (Nat.le_of_not_lt c) (r.le h hi')
   · rw [if_neg q]
     have e:lo=hi:=by omega
     subst e;exact ⟨a,b,h2⟩
theorem Zhc {xs:Array Nat}(r:Ris xs)(j:Nat):(∀ i (h:i<xs.size),i<SetTable.below xs j→xs[i]<j)∧(∀ i (h:i<xs.size),SetTable.below xs j≤i→j≤xs[i])∧SetTable.below xs j≤xs.size:=by unfold SetTable.below;exact go_ok r j xs.size 0 xs.size (by omega) (by omega) (Nat.le_refl _) (fun i h z=>absurd z (Nat.not_lt_zero _)) (fun i h z=>absurd h (by omega))
theorem ris_iff {xs:Array Nat}:Ris xs↔xs.toList.Pairwise (·<·):=by
 rw [List.pairwise_iff_getElem];constructor
 · intro r i j hi hj h
   have:=r i j (by simpa using hj) h;simpa using this
 · intro r i j hj h
   have:=r i j (by simp;omega) (by simpa using hj) h;simpa using this
theorem ris_put {xs:Array Nat}(r:Ris xs){j:Nat}(n:xs[SetTable.below xs j]?≠some j):Ris (SetTable.insertAt xs (SetTable.below xs j) j):=by
 obtain ⟨a,b,c⟩:=Zhc r j;have b':∀ i (h:i<xs.size),SetTable.below xs j≤i→j<xs[i]:=by
   intro i h q;have h1:=b i h q;rcases Nat.lt_or_ge j xs[i] with z | z
   · exact z
   · exfalso
     have e:xs[i]=j:=Nat.le_antisymm z h1;have hp:SetTable.below xs j<xs.size:=by omega
     have e2:xs[SetTable.below xs j]=j:=Nat.le_antisymm (by have:=r.le h q;omega) (b _ hp (Nat.le_refl _));apply n
     rw [Array.getElem?_eq_getElem hp,e2]
 generalize SetTable.below xs j=p at a b' c;rw [ris_iff] at r ⊢;unfold SetTable.insertAt;have e:((xs.extract 0 p).push j++xs.extract p xs.size).toList=xs.toList.take p++j::xs.toList.drop p:=by simp [Array.toList_extract,List.extract];exact List.take_of_length_le (by rw [List.length_drop,Array.length_toList];exact Nat.le_refl _)
 rw [e,List.pairwise_append];refine ⟨r.sublist (List.take_sublist _ _),?_,?_⟩
 · rw [List.pairwise_cons]
   refine ⟨fun y hy=>?_,r.sublist (List.drop_sublist _ _)⟩;obtain ⟨i,hi,rfl⟩:=List.mem_iff_getElem.mp hy;rw [List.getElem_drop];have hl:p+i<xs.size:=by rw [List.length_drop,Array.length_toList] at hi;omega
   have:=b' (p+i) hl (by omega);simpa using this
 · intro y hy z hz
   have hy1:y<j:=by
     obtain ⟨i,hi,rfl⟩:=List.mem_iff_getElem.mp hy;rw [List.getElem_take];have hl:i<p:=by rw [List.length_take] at hi;omega
     have:=a i (by rw [List.length_take,Array.length_toList] at hi;omega) hl;simpa using this
   rcases List.mem_cons.mp hz with rfl | hz
   · exact hy1
   · obtain ⟨i,hi,rfl⟩:=List.mem_iff_getElem.mp hz
     rw [List.getElem_drop];have hl:p+i<xs.size:=by rw [List.length_drop,Array.length_toList] at hi;omega
     have:=b' (p+i) hl (by omega);have:j<xs.toList[p+i]'(by simpa using hl):=by simpa using this
     omega
theorem Zc4 {t:SetTable} {f:Nat→Int} {h:Int}:∀ (n:Nat) (p:SetTable.Probe) (j:Nat) (d:Option Nat),(∀ x,p.dummy=some x→t.slot x=.dummy)→SetTable.probe.go t f h n p=some (.empty j d)→(t.slot j=.empty)∧∀ x,d=some x→t.slot x=.dummy
 | 0,p,j,d,hd,e=>by unfold SetTable.probe.go at e;cases e
 | n + 1,p,j,d,hd,e=>by
   unfold SetTable.probe.go at e;have adv:∀ q:SetTable.Probe,(t.advance q).dummy=q.dummy:=by intro q;unfold SetTable.advance;split<;>rfl
   split at e
   · rename_i hs
     cases e;exact ⟨hs,hd⟩
   · rename_i hs
     refine Zc4 n _ j d (fun x hx=>?_) e;rw [adv] at hx;cases hx;exact hs
   · split at e
     · cases e
     · refine Zc4 n _ j d (fun x hx=>?_) e
       rw [adv] at hx;exact hd x hx
theorem ZgI {t:SetTable}{j:Nat}(h:t.slot j=.empty∨t.slot j=.dummy):t.place[SetTable.below t.place j]?≠some j:=by intro e;unfold SetTable.slot at h;simp only [e,beq_self_eq_true,if_true] at h;rcases h with h | h<;>cases h
theorem free_not {t:SetTable}{h:Int}{j:Nat}{b:Bool}(e:t.freeSlot h=some (j,b)):t.place[SetTable.below t.place j]?≠some j:=by
 unfold SetTable.freeSlot at e;split at e
 · rename_i j0 d hp
   unfold SetTable.probe at hp;obtain ⟨h1,h2⟩:=Zc4 _ _ _ _ (fun x hx=>by cases hx) hp;cases e;cases d with
   | none=>exact ZgI (.inl h1)
   | some x=>exact ZgI (.inr (h2 x rfl))
 · cases e
structure Good (bt:Bool)(t:SetTable):Prop where
 led:t.led=!bt
 ris:t.plain=true→Ris t.place
theorem Good.fresh (bt:Bool):Good bt (.fresh 0 0 (!bt)):=⟨rfl,fun _ i j hj=>absurd hj (Nat.not_lt_zero _)⟩
theorem Good.standIn {bt:Bool}{t:SetTable}(g:Good bt t)(n:Nat):Good bt (t.standIn n):=⟨g.led,fun h=>by cases h⟩
theorem Good.layNew {bt:Bool}{t:SetTable}(g:Good bt t)(es:Array (Int × Value))(h:Int)(x:Value):Good bt (layNew t es h x).2.1:=by
 unfold PySem.layNew;split
 · rename_i j b e
   show Good bt ((t.put j).1.orStandIn _);have gp:Good bt (t.put j).1:=⟨g.led,fun hp=>ris_put (g.ris hp) (free_not e)⟩
   unfold SetTable.orStandIn;split
   · exact gp
   · exact gp.standIn _
 · exact g.standIn _
theorem Good.relayAll {bt:Bool}{t:SetTable}(g:Good bt t)(es:Array (Int × Value))(n:Nat):Good bt (relayAll t es n).2.1:=by
 unfold PySem.relayAll;split
 · rename_i t' ord e
   have gt:Good bt t':=by unfold SetTable.relaid SetTable.laid at e;simp only [Option.bind_eq_bind,Option.bind_eq_some_iff,Option.pure_def] at e;obtain ⟨ow,_,e⟩:=e;cases e;refine ⟨g.led,fun _=>?_⟩;rw [ris_iff];show (List.map _ _).Pairwise _;rw [List.pairwise_map];refine List.Pairwise.filterMap (R:=(·<·)) _ (fun a a' haa b hb c hc=>?_) List.pairwise_lt_range;simp only [Option.map_eq_some_iff] at hb hc;obtain ⟨_,_,rfl⟩:=hb;obtain ⟨_,_,rfl⟩:=hc;exact haa
   dsimp only;split
   · exact gt
   · exact g.standIn _
 · exact g.standIn _
end SG
namespace SG
open PySem PySem.Spec PyProof.Rows
def iv:Value→Int
 | .int k _=>k
 | _=>0
def bt (w:World):Bool:=w.params.followText "set-order"
def ST (prog:Program)(w:World)(h:Heap)(a:Addr)(ks:List Int):Prop :=
 ∃ o es ep t,h.get? a=some o∧o.ExactSet∧o.data=.set es ep t∧ElemsOf (intKind prog w) es.toList∧es.size<scanBound∧t.fits es.size=true∧Good (bt w) t∧(es.toList.map fun e=>iv e.2)=ks∧ks.Nodup
section
variable {prog:Program}{w:World}{A:Around}{E:Value→Shared→Prop}{s:Shared}
theorem ST.but {h h':Heap}{a d:Addr}{ks:List Int}(x:ST prog w h a ks)(k:∀ o,h.get? a=some o→h'.get? a=some o):ST prog w h' a ks:=let ⟨o,es,ep,t,e,r⟩:=x;⟨o,es,ep,t,k o e,r⟩
theorem ZhA {k:Int}{e:Int × Value}{es:List (Int × Value)}(el:ElemsOf (intKind prog w) es)(he:e∈es):(intKind prog w).is k e.2=true↔iv e.2=k:=by
 obtain ⟨⟨k',h1,_⟩,_⟩:=el e he;obtain ⟨t,e2⟩:=Value.isInt_shape h1;rw [e2];constructor
 · intro h
   exact (intKind prog w).inj _ _ _ (intKind_is prog w k' t) h
 · intro h
   have h:k'=k:=h;subst h;exact intKind_is prog w k' t
theorem Zh5 {h:Heap}{a:Addr}{o:Obj}{es:Array (Int × Value)}{ep:Nat}{t:SetTable}(ho:h.get? a=some o)(hd:o.data=.set es ep t)(es':Array (Int × Value))(t':SetTable) :
   (h.update a (Obj.putSet es' t')).get? a=some { o with data:=.set es' (ep+1) t' }:=by
 have q:=Heap.get?_update_self (Obj.putSet es' t') ho (by rw [putSet_of es' t' hd];rfl);rw [putSet_of es' t' hd] at q;exact q
theorem Zb3 {es es':Array (Int × Value)}(p:es'.toList.Perm es.toList):es'.size=es.size:=by rw [← Array.length_toList,p.length_eq,Array.length_toList]
theorem Zg0 {g:Bool→Sem Unit}(hg:∀ (b:Bool) (s1:Shared) (Q':Unit→Shared→Prop),Q' () s1→wpAny (model prog w) A (g b) Q' E s1){a:Addr}{o:Obj}{es:Array (Int × Value)}{ep:Nat}{t:SetTable}(ho:s.heap.get? a=some o)(hx:o.ExactSet)(hd:o.data=.set es ep t)
   {es1:Array (Int × Value)} {t2:SetTable} {wd:Bool} {R:Option Bool→Shared→Prop} (el:ElemsOf (intKind prog w) es1.toList) (hb:es1.size<scanBound) (hf:t2.fits es1.size=true) (gd:Good (bt w) t2) (nd:(es1.toList.map fun e=>iv e.2).Nodup)
   (q:∀ h' ks',Heap.SameBut a s.heap h'→ST prog w h' a ks'→ks'.Perm (es1.toList.map fun e=>iv e.2)→R (some true) { s with heap:=h' }) :
   wpAny (model prog w) A (do storeSet a es1 t2;if (!wd&&t2.tooFull)=true then (do g (relayAll t2 es1 (SetTable.grown es1.size)).2.2;storeSet a (relayAll t2 es1 (SetTable.grown es1.size)).1 (relayAll t2 es1 (SetTable.grown es1.size)).2.1;pure (some true)) else pure (some true)) R E s:=by
 refine wpAny_bind (wpAny_storeSet_of ho hd ?_ (fits_of_scanBound hb));have ho1:=Zh5 ho hd es1 t2;have sb:=Heap.SameBut.update s.heap a (Obj.putSet es1 t2);split
 · have pp:=relayAll_perm t2 es1 (SetTable.grown es1.size)
   have pf:=relayAll_fits t2 es1 (SetTable.grown es1.size);have pg:=gd.relayAll es1 (SetTable.grown es1.size);generalize relayAll t2 es1 (SetTable.grown es1.size)=Z at pp pf pg ⊢;obtain ⟨es2,t3,gv⟩:=Z;have pp:es2.toList.Perm es1.toList:=pp;have hb2:es2.size<scanBound:=by rw [Zb3 pp];exact hb
   refine wpAny_bind (hg _ _ _ (wpAny_bind (wpAny_storeSet_of ho1 rfl ?_ (fits_of_scanBound hb2))));refine wpAny_pure (q _ _ (sb.trans (Heap.SameBut.update _ a _)) ⟨_,es2,_,t3,Zh5 ho1 rfl es2 t3,hx,rfl,el.perm pp,hb2,pf,pg,rfl,?_⟩ (pp.map _));exact (pp.map fun e=>iv e.2).nodup_iff.mpr nd
 · exact wpAny_pure (q _ _ sb ⟨_,es1,_,t2,ho1,hx,rfl,el,hb,hf,gd,rfl,nd⟩ (.refl _))
theorem add_int {a:Addr} {ks:List Int} {k:Int} {tk:Tok} {Q:Bool→Shared→Prop} (hS:ST prog w s.heap a ks) (room:ks.length+1<scanBound)
   (q:∀ b h' ks',Heap.SameBut a s.heap h'→ST prog w h' a ks'→(∀ y,y∈ks'↔y∈ks∨y=k)→ks'.length≤ks.length+1→Q b { s with heap:=h' }):wpAny (model prog w) A (setAddHashed a (.int k tk) ((intKind prog w).hash k)) Q E s:=by
 obtain ⟨o,es,ep,t,ho,hx,hd,el,hb,hf,gd,rfl,nd⟩:=hS;have hk:=intKind_is prog w k tk;have lz:(es.toList.map fun e=>iv e.2).length=es.size:=by rw [List.length_map,Array.length_toList]
 unfold setAddHashed;unfold setAddHashedIn;refine wpAny_holding (wpAny_bind (wpAny_setState_of ho hd hf ?_));dsimp only;rw [byScan_of (x:=Value.int k tk) rfl hb el,if_pos rfl];unfold setAddByScan;refine wpAny_bind (wpAny_bind (wpAny_rule (wpAny_bind (wpAny_setScan_of hk ho hd hf el ?_))));cases hr:List.findIdx? (fun e=>(intKind prog w).is k e.2) es.toList with
 | some j =>
   dsimp only;obtain ⟨hj,pj,_⟩:=List.findIdx?_eq_some_iff_getElem.mp hr;have hm:k∈es.toList.map fun e=>iv e.2:=List.mem_map.mpr ⟨_,List.getElem_mem hj,(ZhA el (List.getElem_mem hj)).mp pj⟩
   refine wpAny_pure (wpAny_pure ?_);have:=q false s.heap _ (Heap.SameBut.refl a s.heap) ⟨o,es,ep,t,ho,hx,hd,el,hb,hf,gd,rfl,nd⟩ (fun y=>⟨.inl,fun z=>z.elim id fun e=>e ▸ hm⟩) (Nat.le_succ _);exact this
 | none =>
   dsimp only;have hm:k∉es.toList.map fun e=>iv e.2:=by intro z;obtain ⟨e,he,e1⟩:=List.mem_map.mp z;have:=List.findIdx?_eq_none_iff.mp hr e he;rw [(ZhA el he).mpr e1] at this;cases this
   have gw:∀ (b:Bool) (s1:Shared) (Q':Unit→Shared→Prop),Q' () s1→wpAny (model prog w) A (match b with | true=>rule "set.scan.the-table-gave-way" | false=>pure ()) Q' E s1:=fun b s1 Q' z=>by
     cases b
     · exact wpAny_pure z
     · exact wpAny_rule z
   have lp:=layNew_perm t es ((intKind prog w).hash k) (.int k tk);have lf:=layNew_fits t es ((intKind prog w).hash k) (.int k tk);have lg:=gd.layNew es ((intKind prog w).hash k) (.int k tk);generalize layNew t es ((intKind prog w).hash k) (.int k tk)=Z at lp lf lg ⊢;obtain ⟨es1,t1,wd,gv⟩:=Z;have lf:t1.fits es1.size=true:=lf;have lg:Good (bt w) t1:=lg;have lp:es1.toList.Perm (es.toList++[((intKind prog w).hash k,.int k tk)]):=by
     have:=lp
     rwa [Array.toList_push] at this
   have el1:ElemsOf (intKind prog w) es1.toList:=(el.push hk rfl).perm lp;have l1:es1.size=es.size+1:=by have:=lp.length_eq;rw [List.length_append,Array.length_toList,Array.length_toList] at this;exact this
   have hb1:es1.size<scanBound:=by rw [l1];rw [lz] at room;exact room
   have pm:(es1.toList.map fun e=>iv e.2).Perm ((es.toList.map fun e=>iv e.2)++[k]):=by
     have:=lp.map fun e=>iv e.2
     rwa [List.map_append] at this
   have nd1:(es1.toList.map fun e=>iv e.2).Nodup:=by rw [pm.nodup_iff,List.nodup_append];exact ⟨nd,(by simp),fun x hx y hy e=>hm (by rw [List.mem_singleton.mp hy] at e;rw [← e];exact hx)⟩
   have fin:∀ h' ks',Heap.SameBut a s.heap h'→ST prog w h' a ks'→ks'.Perm (es1.toList.map fun e=>iv e.2)→Q true { s with heap:=h' }:=fun h' ks' sb st p=>by
     refine q true h' ks' sb st (fun y=>?_) ?_
     · rw [p.mem_iff,pm.mem_iff,List.mem_append,List.mem_singleton]
     · rw [p.length_eq,List.length_map,Array.length_toList,l1,lz]
       exact Nat.le_refl _
   dsimp only;refine wpAny_bind (gw _ _ _ ?_);split
   · refine wpAny_bind ?_
     rw [hashByValue_scannable 8 (x:=Value.int k tk) rfl];refine wpAny_pure (Zg0 (fun b s1 Q' z=>gw b s1 Q' z) ho hx hd el1 hb1 ?_ ?_ nd1 fun h' ks' sb st p=>wpAny_pure (fin h' ks' sb st p))
     · exact lf
     · exact lg
   · refine wpAny_bind (wpAny_pure (Zg0 (fun b s1 Q' z=>gw b s1 Q' z) ho hx hd el1 hb1 ?_ ?_ nd1 fun h' ks' sb st p=>wpAny_pure (fin h' ks' sb st p)))
     · exact lf
     · exact lg
theorem upd_loop {R:Result→Shared→Prop} {I:Addr} {fp wr:List Addr} {n:Nat} {P:Nat→Value→Prop} {St:Nat→Heap→Prop} (W:Walks prog w A.in1 I fp wr n P St) (S:Addr) (hS:S∉fp) (val:Nat→Int) (hv:∀ i v,P i v→∃ t,v=.int (val i) t) (hb:n+1<scanBound) :
   ∀ (d i:Nat) (s:Shared) (ks:List Int),n-i=d→i≤n→St i s.heap→ST prog w s.heap S ks→(∀ y,y∈ks↔∃ j,j<i∧y=val j)→ks.length≤i →
   (∀ h' tk ks',(∀ b o,b≠S→b∉wr→s.heap.get? b=some o→h'.get? b=some o)→ST prog w h' S ks'→(∀ y,y∈ks'↔∃ j,j<n∧y=val j)→R (.ok (.ret .none)) { s with heap:=h',toks:=tk }) →
   codeAny (model prog w) A (Code.builtin "set.update.loop" ⟨[.ref S,.ref I],[]⟩) R s:=by
 have hSw:S∉wr:=fun z=>hS (W.sub _ z)
 intro d;induction d with
 | zero =>
   intro i s ks hd hi st hk hm hl q;have e:i=n:=by omega
   subst e;refine codeAny_builtin F.entry_set_update_loop ?_;rw [Around.under_plainId F.plain_set_update_loop _];refine wpAny_bind (m:=pyNext (.ref I)) (W.done s _ _ st fun h' tk k=>?_);exact wpAny_pure (q h' tk ks (fun b o _ n2 e=>k b o n2 e) (hk.but (d:=S) fun o e=>k S o hSw e) hm)
 | succ d ih =>
   intro i s ks hd hi st hk hm hl q;refine codeAny_builtin F.entry_set_update_loop ?_;rw [Around.under_plainId F.plain_set_update_loop _];refine wpAny_bind (m:=pyNext (.ref I)) (W.item i s _ _ (by omega) st fun v h1 tk pv st1 k1=>?_);obtain ⟨t,rfl⟩:=hv i v pv;have hk1:ST prog w h1 S ks:=hk.but (d:=S) fun o e=>k1 S o hSw e
   refine wpAny_bind (m:=holding [Value.int (val i) t] (setAdd S (.int (val i) t))) (wpAny_holding ?_);unfold setAdd;refine wpAny_holding (wpAny_bind ((intKind prog w).pyHash (k:=val i) (intKind_is _ _ _ _) ?_));refine add_int (s:={ s with heap:=h1,toks:=tk+1 }) hk1 (by omega) fun b h2 ks2 sb st2 m2 l2=>?_
   refine wpAny_pure ⟨plainId_quiet F.plain_set_update_loop _,ih (i+1) _ ks2 (by omega) (by omega) (W.frame _ h1 h2 st1 fun c hc o e=>?_) st2 (fun y=>?_) (by omega) fun h3 tk3 ks3 k3 st3 m3=>?_⟩
   · rw [sb.2 c (fun z=>hS (z ▸ hc))]
     exact e
   · rw [m2,hm]
     constructor
     · rintro (⟨j,hj,e⟩ | e)
       · exact ⟨j,by omega,e⟩
       · exact ⟨i,by omega,e⟩
     · rintro ⟨j,hj,e⟩
       by_cases c:j<i
       · exact .inl ⟨j,c,e⟩
       · have:j=i:=by omega
         subst this;exact .inr e
   · refine q h3 tk3 ks3 (fun c o n1 n2 e=>k3 c o n1 n2 ?_) st3 m3
     show h2.get? c=some o;rw [sb.2 c n1];exact k1 c o n2 e
theorem new_set (a:Value){Q:Value→Shared→Prop}(q:Q (.ref s.heap.objs.size) { s with heap:=s.heap.push { cls:=.type "set",dict:=none,data:=.set #[] 0 (.fresh 0 0 (!bt w)) } }) :
   codeAny (model prog w) A (.call (.builtin "set.__new__") ⟨[.type "set",a],[]⟩) (wants Q E) s:=by
 refine codeAny_of_tree ?_;refine wpAny_bind (m:=checkBuiltinCall "set.__new__" ⟨[.type "set",a],[]⟩) (wpAny_of_eq (PySem.F.newCall_set_1 a) (wpAny_pure ⟨plainId_quiet PySem.F.plain_set_new _,codeAny_builtin PySem.F.entry_set_new ?_⟩));rw [Around.under_plainId PySem.F.plain_set_new _];unfold Builtin.«set.__new__»;unfold Builtin.Frozenset.newClass;have hsub:=sub_set_self;obtain ⟨hp,ge,dr,tk,os⟩:=s;dsimp only
 wp_walk
 refine wpAny_askSetting (wpAny_pure ?_);simp only [newObj];exact wpAny_bind (wpAny_alloc (wpAny_pure (wpAny_pure q)))
def emptyObj (w:World):Obj:={ cls:=.type "set",dict:=none,data:=.set #[] 0 (.fresh 0 0 (!bt w)) }
theorem st_empty {h:Heap}{a:Addr}(e:h.get? a=some (emptyObj w)):ST prog w h a [] :=
 ⟨_,#[],0,.fresh 0 0 (!bt w),e,⟨rfl,rfl,rfl⟩,rfl,(fun x hx=>nomatch hx),(by decide),rfl,Good.fresh _,rfl,List.nodup_nil⟩
set_option maxHeartbeats 3200000 in
theorem call_set {l:Addr} {its:Array Value} {ns:List Int} {Q:Value→Shared→Prop} (hh:A.handled=none) (hl:s.heap.IsList l its) (hi:IntsAre its.toList ns) (hb:its.size+1<scanBound)
   (q:∀ (h':Heap) (tk:Nat) (ks:List Int),ST prog w h' s.heap.objs.size ks→(∀ y,y∈ks↔y∈ns)→(∀ b o,b<s.heap.objs.size→s.heap.get? b=some o→h'.get? b=some o)→Q (.ref s.heap.objs.size) { s with heap:=h',toks:=tk }) :
   wpAny (model prog w) A (call (.type "set") [.ref l]) Q E s:=by
 have ln:its.size=ns.length:=by rw [← Array.length_toList];exact IntsAre.length hi
 obtain ⟨c,tl,hmro⟩:=PySem.F.called_set.mro;have hmade:=PySem.F.called_set.made;have hsub:=PySem.F.called_set.sub;refine wpAny_call (codeAny_of_tree ?_);refine wpAny_pure ⟨Code.quiet_builtin _ (by decide +kernel),codeAny_builtin F.entry_type_call ?_⟩;rw [Around.under_plain (weight_type_call_type "set" [.ref l] []) rfl];have h1:=PySem.F.called_set.notType;have h2:=PySem.F.called_set.canCreate;have hct:=PySem.F.typeCall_set_1 (.ref l)
 repeat (any_goals (first | assumption | wp_step))
 refine codeAny_mono (new_set (.ref l) (E:=E) (Q:=fun obj s1=>obj=.ref s.heap.objs.size∧s1={ s with heap:=s.heap.push (emptyObj w) }) ⟨rfl,rfl⟩) fun r s1 hr=>?_
 cases r with
 | error e=>exact hr
 | ok fl =>
   cases fl with
   | ret obj =>
     obtain ⟨rfl,rfl⟩:=hr;have hS:(s.heap.push (emptyObj w)).get? s.heap.objs.size=some (emptyObj w):=Heap.get?_push_size _ rfl;have hT:Shared.TypeIs { s with heap:=s.heap.push (emptyObj w) } (.ref s.heap.objs.size) "set":=⟨_,hS,rfl⟩
     have hli:=PySem.F.called_set.init.lookup;have hbi:=PySem.F.called_set.init.bind (.ref s.heap.objs.size)
     repeat (any_goals (first | assumption | wp_step))
     refine codeAny_mono (codeAny_call_builtin (R:=wants (fun r s2=>r=.none∧∃ h' tk ks,s2={ s with heap:=h',toks:=tk }∧ST prog w h' s.heap.objs.size ks∧(∀ y,y∈ks↔y∈ns)∧∀ b o,b<s.heap.objs.size→s.heap.get? b=some o→h'.get? b=some o) E) PySem.F.called_set.init.plain PySem.F.entry_set_init (check_set_init_1 hT ?_)) fun r2 s2 hr2=>?_
     · obtain ⟨ol,hol,hcl,nl,hdl⟩:=hl
       obtain ⟨ocls,odict,odata,oslots⟩:=ol;simp only at hcl hdl;subst hcl;subst hdl;have hol1:(s.heap.push (emptyObj w)).get? l=some { cls:=.type "list",dict:=odict,data:=.seq its nl,slots:=oslots }:=Heap.get?_push_of_some _ hol;have g1:=PySem.F.sub_list_set;have g2:=PySem.F.sub_list_frozenset;have g3:(Value.type "list"==Value.type "dict")=false:=by decide
       have hl1:(s.heap.push (emptyObj w)).IsList l its:=⟨_,hol1,rfl,nl,rfl⟩
       unfold Builtin.«set.__init__»;unfold noKeywords;unfold Builtin.Frozenset.updateFrom;generalize hPI:pyIter=PI
       wp_walk
       subst hPI;refine wpAny_pyIter_list hl1 (wpAny_bind (wpAny_runValue ?_));have lt:l<s.heap.objs.size:=Heap.lt_size hol;have hh3:A.in1.in1.in1.handled=none:=by simp [hh]
       have sz:(s.heap.push (emptyObj w)).objs.size=s.heap.objs.size+1:=Heap.size_push ..;have neI:l≠(s.heap.push (emptyObj w)).objs.size:=by rw [sz];exact Nat.ne_of_lt (Nat.lt_succ_of_lt lt)
       have neS:s.heap.objs.size∉[(s.heap.push (emptyObj w)).objs.size,l]:=by
         rw [sz];intro z;rcases List.mem_cons.mp z with z | z
         · exact Nat.ne_of_lt (Nat.lt_succ_self _) z
         · exact Nat.ne_of_gt lt (List.mem_singleton.mp z)
       refine upd_loop (Walks.list hh3 _ l neI its) s.heap.objs.size neS (fun i=>ns.getD i 0) (fun i v hv=>IntsAre.int_at hi i v (by rw [Array.getElem?_toList];exact hv)) hb its.size 0 _ [] rfl (Nat.zero_le _) ⟨⟨_,Heap.get?_push_size _ rfl,rfl,rfl⟩,hl1.push _⟩ (st_empty (Heap.get?_push_of_some _ hS)) (fun y=>⟨fun z=>(nomatch z),fun ⟨j,hj,_⟩=>absurd hj (Nat.not_lt_zero _)⟩) (Nat.le_refl _) fun h' tk ks k st m=>?_
       refine wpAny_pure (wpAny_pure ⟨rfl,h',tk,ks,rfl,st,fun y=>?_,fun b o lb e=>?_⟩)
       · rw [m,ln]
         constructor
         · rintro ⟨j,hj,rfl⟩
           show ns.getD j 0∈ns;rw [List.getD_eq_getElem?_getD,List.getElem?_eq_getElem hj];exact List.getElem_mem hj
         · intro hy
           obtain ⟨j,hj,rfl⟩:=List.mem_iff_getElem.mp hy;refine ⟨j,hj,?_⟩;show _=ns.getD j 0;rw [List.getD_eq_getElem?_getD,List.getElem?_eq_getElem hj];rfl
       · refine k b o (Nat.ne_of_lt lb) (fun z=>?_) (Heap.get?_push_of_some _ (Heap.get?_push_of_some _ e))
         have:=List.mem_singleton.mp z;rw [sz] at this;exact Nat.ne_of_lt (Nat.lt_succ_of_lt lb) this
     · cases r2 with
       | error e=>exact hr2
       | ok f2 =>
         cases f2 with
         | ret r =>
           obtain ⟨rfl,h',tk,ks,rfl,st,m,k⟩:=hr2
           repeat (any_goals (first | assumption | wp_step))
           exact q _ _ _ st m k
         | _=>exact hr2.elim
   | _=>exact hr.elim
end
end SG
namespace SG
open PySem PySem.Spec PyProof.Rows
theorem slot_it_next:Slot "set_iterator" "__next__" "set_iterator.__next__" :=
 .of (owner:="set_iterator") (n:="__next__") (by rw [typeLookup_type,builtinLookup_eq_fast];kernel_rfl) (by decide +kernel) (by decide +kernel) (by decide +kernel) (by first | exact .inl (by decide +kernel) | exact .inr (by decide +kernel)) (by rw [isSubtype_type];kernel_rfl)
theorem Zdt:Slot "set_iterator" "__iter__" "set_iterator.__iter__" :=
 .of (owner:="set_iterator") (n:="__iter__") (by rw [typeLookup_type,builtinLookup_eq_fast];kernel_rfl) (by decide +kernel) (by decide +kernel) (by decide +kernel) (by first | exact .inl (by decide +kernel) | exact .inr (by decide +kernel)) (by rw [isSubtype_type];kernel_rfl)
theorem Zbr:entryFor table "set_iterator.__next__"=some Builtin.«set_iterator.__next__»:=entryFor_of_tree (by kernel_rfl)
theorem ZbA (a:Value):argsOk "set_iterator.__next__" ⟨[a],[]⟩:=by unfold argsOk;kernel_rfl
theorem Zf3 (a:Value):argsOk "set_iterator.__iter__" ⟨[a],[]⟩:=by unfold argsOk;kernel_rfl
theorem Ze9:entryFor table "set_iterator.__iter__"=some Builtin.«dict_keyiterator.__iter__»:=entryFor_alias (id':="dict_keyiterator.__iter__") (by kernel_rfl) (by first | rfl | decide +kernel | (unfold String.splitOn;simp +decide [String.splitOnAux])) (by decide +kernel) (by kernel_rfl)
theorem ZeG:entryFor table "set.__iter__"=some Builtin.«frozenset.__iter__»:=entryFor_alias (id':="frozenset.__iter__") (by kernel_rfl) rfl (by decide +kernel) (by kernel_rfl)
theorem ZcP {α:Type}:∀ (l:List α) {i:Nat} (h:i<l.length),(l[i]::l.eraseIdx i).Perm l
 | [],_,h=>absurd h (Nat.not_lt_zero _)
 | x::l,0,_=>.refl _
 | x::l,i+1,h=>by
   have:=ZcP l (i:=i) (by simpa using h);exact (List.Perm.swap _ _ _).trans (this.cons x)
theorem Zi9 {α:Type}(next:Nat→Nat):∀ (n k:Nat) (l:List α) (out:Array α),l.length=n→(pickOrder.go next n k l out).toList.Perm (out.toList++l)
 | 0,k,l,out,h=>by
   have e:l=[]:=List.length_eq_zero_iff.mp h;subst e;unfold pickOrder.go;rw [List.append_nil]
 | n+1,k,l,out,h=>by
   unfold pickOrder.go;have hl:next k%l.length<l.length:=Nat.mod_lt _ (by omega);rw [List.getElem?_eq_getElem hl];dsimp only;refine (Zi9 next n (k+1) _ _ (by rw [List.length_eraseIdx];rw [if_pos hl];omega)).trans ?_;rw [Array.toList_push,List.append_assoc];refine List.Perm.append_left _ ?_;exact ZcP l hl
theorem ZdP {α:Type}(next:Nat→Nat)(xs:Array α):(pickOrder next xs).toList.Perm xs.toList:=by unfold pickOrder;have:=Zi9 next xs.size 0 xs.toList #[] (Array.length_toList ..);simpa using this
def itObj (f:Value)(i:Int)(c:Value)(n ep:Nat):Obj:={ cls:=.type "set_iterator",dict:=none,data:=.fields #[f,rawInt i,c,rawInt n,rawInt ep],slots:=#[] }
section
variable {prog:Program}{w:World}{A:Around}{E:Value→Shared→Prop}{s:Shared}{a:Addr}{o:Obj}{es:Array (Int × Value)}{ep:Nat}{t:SetTable}
theorem ZcB {Q:Bool→Shared→Prop}(q:Q (bt w) s):wpAny (model prog w) A setsByText Q E s:=by unfold setsByText;exact wpAny_bind (wpAny_askSetting (wpAny_pure q))
theorem Zjm {sl gi:Nat}{Q:Option (Value × Nat)→Shared→Prop}(hb:bt w=true)(ho:s.heap.get? a=some o)(hd:o.data=.set es ep t)(hf:t.fits es.size=true)(q:Q (((pickOrder (w.params.setOrder a ep) es)[gi]?).map fun e=>(e.2,sl)) s):wpAny (model prog w) A (setNext a sl gi ep) Q E s:=by unfold setNext;refine wpAny_bind (wpAny_setState_of ho hd hf ?_);dsimp only;refine wpAny_bind (ZcB ?_);rw [hb,if_pos rfl,if_neg (by simp)];unfold setWalk;refine wpAny_bind (wpAny_bind (wpAny_setState_of ho hd hf ?_));dsimp only;refine wpAny_bind (ZcB ?_);rw [hb,if_pos rfl];exact wpAny_bind (wpAny_askSetting (wpAny_pure (wpAny_pure q)))
theorem ZgE {sl gi:Nat}{Q:Option (Value × Nat)→Shared→Prop}(hb:bt w=false)(hl:t.led=true)(hp:(!t.plain&&decide (es.size > 1))=false)(ho:s.heap.get? a=some o)(hd:o.data=.set es ep t)(hf:t.fits es.size=true)
   (q:Q (match es[SetTable.below t.place sl]?,t.place[SetTable.below t.place sl]? with | some (_,x),some j=>some (x,j+1) | _,_=>none) s):wpAny (model prog w) A (setNext a sl gi ep) Q E s:=by
 unfold setNext;refine wpAny_bind (wpAny_setState_of ho hd hf ?_);dsimp only;refine wpAny_bind (ZcB ?_);rw [hb,if_neg (by decide)];show wpAny _ _ (if (!t.plain&&decide (es.size > 1))=true then _ else _) _ _ _;rw [hp,if_neg (by decide)];refine wpAny_bind (m:=if (!t.led&&!es.isEmpty)=true then unsupported "set:maker-not-led" else pure ()) ?_;rw [hl,if_neg (by simp)];exact wpAny_pure (wpAny_pure q)
end
end SG
namespace SG
open PySem PySem.Spec PyProof.Rows
section
variable {prog:Program}{w:World}{A:Around}{E:Value→Shared→Prop}{s:Shared}{a I:Addr}{o:Obj}{es:Array (Int × Value)}{ep:Nat}{t:SetTable}
theorem Zdq {f c:Value}{i:Int}{n:Nat}(hI:s.heap.get? I=some (itObj f i c n ep)):s.TypeIs (.ref I) "set_iterator":=⟨_,hI,rfl⟩
theorem Zfy {h0:Heap}{R:Fin→Shared→Prop}{Q:Option Value→Shared→Prop}(hh:A.handled=none)(ex:Heap.ExtBut I h0 s.heap)(q:∀ g,Heap.ExtBut I h0 g→Q none { s with heap:=g }) :
   wpAny (model prog w) A.in1 (newExc (.type "StopIteration") [] >>= fun e=>raiseNew e) R (fun e s'=>wpAny (model prog w) A (do if ← isInstance e (.type "StopIteration") then pure none else throw e) Q E s') s:=by
 refine wpAny_bind ?_;simp only [newExc,newTuple];refine wpAny_bind (wpAny_newObj_type (wpAny_bind (m:=firstArgMember _ _) (wpAny_of_eq (a:=Value.none) (by first | rfl | (simp only [firstArgMember];rfl)) (wpAny_newObj_type ?_ (by size_fits)))) (by size_fits));simp only [raiseNew];refine wpAny_bind (wpAny_handled ?_);rw [show A.in1.handled=none from hh];refine wpAny_bind (wpAny_pure (wpAny_throw ?_));exact wpAny_bind (wpAny_isInstance (T:="StopIteration") (b:=true) ⟨_,Heap.get?_push_size _ rfl,rfl⟩ isSubtype_stop (wpAny_pure (q _ ((ex.push _).push _))))
theorem Zjb {sl i n nx:Nat}{x:Value}{Q:Option Value→Shared→Prop}(hI:s.heap.get? I=some (itObj (rawInt sl) i (.ref a) n ep))(ho:s.heap.get? a=some o)(hd:o.data=.set es ep t)(hf:t.fits es.size=true)(sz:es.size=n)
   (hs:∀ {A:Around} {E:Value→Shared→Prop} {Q:Option (Value × Nat)→Shared→Prop},Q (some (x,nx)) s→wpAny (model prog w) A (setNext a sl i ep) Q E s)
   (q:∀ g,g.get? I=some (itObj (rawInt nx) (i+1:Nat) (.ref a) n ep)→Heap.SameBut I s.heap g→Q (some x) { s with heap:=g }):wpAny (model prog w) A (pyNext (.ref I)) Q E s:=by
 have hT:=Zdq hI;unfold pyNext;refine wpAny_bind (wpAny_attempt (wpAny_callSpecial?_slot (name:=Str.ofString "__next__") hT slot_it_next (wpAny_call_entry slot_it_next hT Zbr ?_ (ZbA _))));unfold Builtin.«set_iterator.__next__»;refine wpAny_bind (m:=slotArgs "__next__" 0 ⟨[.ref I],[]⟩) (wpAny_pure (wpAny_bind (wpAny_fieldsOf hI rfl ?_)));dsimp only [rawInt];refine wpAny_bind (wpAny_setEntries_of ho hd hf ?_);rw [if_neg (by rw [sz];simp)];simp only [Int.toNat_natCast];refine wpAny_bind (hs ?_);dsimp only;refine wpAny_bind (wpAny_setField_rec hI (by show 0<5;decide) fun g1 e1 s1=>?_);refine wpAny_bind (wpAny_setField_rec e1 (by show 1<5;decide) fun g2 e2 s2=>?_);exact wpAny_pure ⟨x,rfl,wpAny_pure (q g2 e2 (s1.trans s2))⟩
theorem it_end {sl i n:Nat}{Q:Option Value→Shared→Prop}(hh:A.handled=none)(hI:s.heap.get? I=some (itObj (rawInt sl) i (.ref a) n ep))(ho:s.heap.get? a=some o)(hd:o.data=.set es ep t)(hf:t.fits es.size=true)(sz:es.size=n)
   (hs:∀ {A:Around} {E:Value→Shared→Prop} {Q:Option (Value × Nat)→Shared→Prop},Q none s→wpAny (model prog w) A (setNext a sl i ep) Q E s)
   (q:∀ g,Heap.ExtBut I s.heap g→Q none { s with heap:=g }):wpAny (model prog w) A (pyNext (.ref I)) Q E s:=by
 have hT:=Zdq hI;unfold pyNext;refine wpAny_bind (wpAny_attempt (wpAny_callSpecial?_slot (name:=Str.ofString "__next__") hT slot_it_next (wpAny_call_entry slot_it_next hT Zbr ?_ (ZbA _))));unfold Builtin.«set_iterator.__next__»;refine wpAny_bind (m:=slotArgs "__next__" 0 ⟨[.ref I],[]⟩) (wpAny_pure (wpAny_bind (wpAny_fieldsOf hI rfl ?_)));dsimp only [rawInt];refine wpAny_bind (wpAny_setEntries_of ho hd hf ?_);rw [if_neg (by rw [sz];simp)];simp only [Int.toNat_natCast];refine wpAny_bind (hs ?_);dsimp only;refine wpAny_bind (wpAny_setField_rec hI (by show 2<5;decide) fun g1 e1 s1=>?_);exact Zfy (s:={ s with heap:=g1 }) (h0:=s.heap) hh s1.extBut q
theorem dr_item {T:Addr}{pls:Array Value}{i n pl:Nat}{h0:Int}{x:Value}{Q:Option Value→Shared→Prop}(hI:s.heap.get? I=some (itObj (.ref T) i (.ref a) n ep))(hT0:IsTup s.heap T pls)(hp:pls[i]?=some (rawInt pl))(hx:es[pl]?=some (h0,x))(ho:s.heap.get? a=some o)(hd:o.data=.set es ep t)(hf:t.fits es.size=true)(sz:es.size=n)
   (q:∀ g,g.get? I=some (itObj (.ref T) (i+1:Nat) (.ref a) n ep)→Heap.SameBut I s.heap g→Q (some x) { s with heap:=g }):wpAny (model prog w) A (pyNext (.ref I)) Q E s:=by
 have hT:=Zdq hI;obtain ⟨oT,eT,_,nT,dT⟩:=hT0;unfold pyNext;refine wpAny_bind (wpAny_attempt (wpAny_callSpecial?_slot (name:=Str.ofString "__next__") hT slot_it_next (wpAny_call_entry slot_it_next hT Zbr ?_ (ZbA _))));unfold Builtin.«set_iterator.__next__»;refine wpAny_bind (m:=slotArgs "__next__" 0 ⟨[.ref I],[]⟩) (wpAny_pure (wpAny_bind (wpAny_fieldsOf hI rfl ?_)));dsimp only [rawInt];refine wpAny_bind (wpAny_setEntries_of ho hd hf ?_);rw [if_neg (by rw [sz];simp)];refine wpAny_bind (wpAny_seqItems eT dT ?_);simp only [Int.toNat_natCast,hp,rawInt];unfold setNextDrawn;refine wpAny_bind (wpAny_bind (wpAny_setState_of ho hd hf ?_));dsimp only;rw [if_neg (by simp),hx];refine wpAny_pure (wpAny_bind (wpAny_setField_rec hI (by show 1<5;decide) fun g2 e2 s2=>?_));exact wpAny_pure ⟨x,rfl,wpAny_pure (q g2 e2 s2)⟩
theorem dr_end {T:Addr}{pls:Array Value}{i n:Nat}{Q:Option Value→Shared→Prop}(hh:A.handled=none)(hI:s.heap.get? I=some (itObj (.ref T) i (.ref a) n ep))(hT0:IsTup s.heap T pls)(hp:pls[i]?=none)(ho:s.heap.get? a=some o)(hd:o.data=.set es ep t)(hf:t.fits es.size=true)(sz:es.size=n)
   (q:∀ g,Heap.ExtBut I s.heap g→Q none { s with heap:=g }):wpAny (model prog w) A (pyNext (.ref I)) Q E s:=by
 have hT:=Zdq hI;obtain ⟨oT,eT,_,nT,dT⟩:=hT0;unfold pyNext;refine wpAny_bind (wpAny_attempt (wpAny_callSpecial?_slot (name:=Str.ofString "__next__") hT slot_it_next (wpAny_call_entry slot_it_next hT Zbr ?_ (ZbA _))));unfold Builtin.«set_iterator.__next__»;refine wpAny_bind (m:=slotArgs "__next__" 0 ⟨[.ref I],[]⟩) (wpAny_pure (wpAny_bind (wpAny_fieldsOf hI rfl ?_)));dsimp only [rawInt];refine wpAny_bind (wpAny_setEntries_of ho hd hf ?_);rw [if_neg (by rw [sz];simp)];refine wpAny_bind (wpAny_seqItems eT dT ?_);simp only [Int.toNat_natCast,hp];refine wpAny_bind (wpAny_setField_rec hI (by show 0<5;decide) fun g1 e1 s1=>?_);refine wpAny_bind (wpAny_setField_rec e1 (by show 2<5;decide) fun g2 e2 s2=>?_);exact Zfy (s:={ s with heap:=g2 }) (h0:=s.heap) hh (s1.trans s2).extBut q
theorem ZfW {f c:Value}{i:Int}{n:Nat}{Q:Value→Shared→Prop}(hI:s.heap.get? I=some (itObj f i c n ep))(q:Q (.ref I) s):wpAny (model prog w) A (pyIter (.ref I)) Q E s:=by have hT:=Zdq hI;refine wpAny_pyIter_slot hT Zdt (wpAny_call_entry Zdt hT Ze9 ?_ (Zf3 _));exact wpAny_pure ⟨_,rfl,"set_iterator",_,hT,slot_it_next.lookup,q⟩
theorem Ze3 {α:Type}:∀ (n:Nat) (l:List α) (s:Shared) (Q:List α→Shared→Prop),l.length=n→(∀ l' d,l'.Perm l→Q l' { s with drawn:=d })→wpAny (model prog w) A (drawOrder n l) Q E s
 | 0,l,s,Q,h,q=>by
   have e:l=[]:=List.length_eq_zero_iff.mp h;subst e;unfold drawOrder;exact wpAny_pure (q [] s.drawn (.refl _))
 | n+1,[],s,Q,h,q=>by cases h
 | n+1,x::l,s,Q,h,q=>by
   unfold drawOrder;refine wpAny_bind (?_:wpAny (model prog w) A (choose .order (x::l).length) _ E s);intro Γ p hΓ;refine ⟨by simp,?_⟩;have hl:=Nat.mod_lt ((model prog w).w.draws .order (s.drawn.get .order)) (show 0<(x::l).length by simp);generalize (model prog w).w.draws .order (s.drawn.get .order)%(x::l).length=i at hl ⊢;show wpAny _ _ _ _ _ _;rw [List.getElem?_eq_getElem hl];dsimp only;refine wpAny_bind (Ze3 n ((x::l).eraseIdx i) _ _ (by rw [List.length_eraseIdx,if_pos hl];simp at h ⊢;omega) fun l' d pl=>?_);exact wpAny_pure (q _ d ((pl.cons _).trans (ZcP _ hl)))
end
end SG
namespace SG
open PySem PySem.Spec PyProof.Rows
structure Wk (prog:Program)(w:World)(h0 h2:Heap)(a:Addr)(ks:List Int)(I:Addr):Prop where
 ex:∃ (fp wr:List Addr) (vs:List Value) (ks':List Int) (St:Nat→Heap→Prop),(∀ A:Around,A.handled=none→Walks prog w A I fp wr vs.length (fun i v=>vs[i]?=some v) St)∧St 0 h2∧(∀ b∈fp,b<h2.objs.size)∧I∈fp∧(∀ b∈wr,h0.get? b=none)∧IntsAre vs ks'∧ks'.Perm ks∧(∀ b∈fp,b=a∨h0.get? b=none)
 old:∀ b o,h0.get? b=some o→h2.get? b=some o
section
variable {prog:Program}{w:World}{A:Around}{E:Value→Shared→Prop}{s:Shared}{a I:Addr}{o:Obj}{es:Array (Int × Value)}{ep:Nat}{t:SetTable}
theorem Zfh {l:List (Int × Value)}(el:ElemsOf (intKind prog w) l):IntsAre (l.map (·.2)) (l.map fun e=>iv e.2):=by
 induction l with
 | nil=>exact .nil
 | cons e l ih =>
   obtain ⟨⟨k,hk,_⟩,_⟩:=el e (.head _);obtain ⟨t,e2⟩:=Value.isInt_shape hk;have:=ih el.tail;rw [List.map_cons,List.map_cons,e2];constructor;exact this
theorem Zh9 (hb:bt w=true) (hf:t.fits es.size=true) (hd:o.data=.set es ep t) (ne:a≠I):∀ A:Around,A.handled=none→Walks prog w A I [I,a] [I] ((pickOrder (w.params.setOrder a ep) es).toList.map (·.2)).length (fun i v=>((pickOrder (w.params.setOrder a ep) es).toList.map (·.2))[i]?=some v) (fun i h=>h.get? I=some (itObj (rawInt (0:Nat)) (i:Nat) (.ref a) es.size ep)∧h.get? a=some o):=fun A hh =>
 { sub := fun b hb=>List.mem_cons.mpr (.inl (List.mem_singleton.mp hb))
   frame:=fun i h h' st k=>⟨k I (by simp) _ st.1,k a (by simp) _ st.2⟩
   item:=fun i s Q E hi st q=>by
     have hi':i<(pickOrder (w.params.setOrder a ep) es).size:=by simpa using hi
     refine Zjb (x:=((pickOrder (w.params.setOrder a ep) es)[i]).2) (nx:=0) st.1 st.2 hd hf rfl (fun z=>Zjm hb st.2 hd hf ?_) fun g e1 e2=>q _ g s.toks ?_ ⟨e1,e2.extBut _ _ ne st.2⟩ fun b u hb e=>e2.extBut _ _ (fun z=>hb (List.mem_singleton.mpr z)) e
     · rw [Array.getElem?_eq_getElem hi']
       exact z
     · rw [List.getElem?_map,Array.getElem?_toList,Array.getElem?_eq_getElem hi']
       rfl
   done:=fun s Q E st q=>by
     refine it_end hh st.1 st.2 hd hf rfl (fun z=>Zjm hb st.2 hd hf ?_) fun g e2=>q g s.toks fun b u hb e=>e2 _ _ (fun z=>hb (List.mem_singleton.mpr z)) e
     rw [Array.getElem?_eq_none (by simp)];exact z
   self:=fun i s Q E st q=>ZfW st.1 q }
theorem Zhj (hb:bt w=false) (hl:t.led=true) (hp:(!t.plain&&decide (es.size > 1))=false) (hr:Ris t.place) (hf:t.fits es.size=true) (hd:o.data=.set es ep t) (ne:a≠I):∀ A:Around,A.handled=none→Walks prog w A I [I,a] [I] (es.toList.map (·.2)).length (fun i v=>(es.toList.map (·.2))[i]?=some v)
   (fun i h=>(∃ sl:Nat,h.get? I=some (itObj (rawInt sl) (i:Nat) (.ref a) es.size ep)∧(∀ j (q:j<t.place.size),j<i→t.place[j]<sl)∧(∀ j (q:j<t.place.size),i≤j→sl≤t.place[j]))∧h.get? a=some o):=fun A hh=>by
 have sp:t.place.size=es.size:=by unfold SetTable.fits at hf;simp at hf;exact hf.1
 have at_:∀ (i sl:Nat),i≤t.place.size→(∀ j (q:j<t.place.size),j<i→t.place[j]<sl)→(∀ j (q:j<t.place.size),i≤j→sl≤t.place[j])→SetTable.below t.place sl=i:=by
   intro i sl hi c1 c2;obtain ⟨b1,b2,b3⟩:=Zhc hr sl;rcases Nat.lt_trichotomy (SetTable.below t.place sl) i with q | q | q
   · have hq:SetTable.below t.place sl<t.place.size:=by omega
     have z1:=c1 _ hq q;have z2:=b2 _ hq (Nat.le_refl _);omega
   · exact q
   · have hq:i<t.place.size:=by omega
     have z1:=b1 _ hq q;have z2:=c2 _ hq (Nat.le_refl _);omega
 exact
 { sub := fun b hb=>List.mem_cons.mpr (.inl (List.mem_singleton.mp hb))
   frame:=fun i h h' st k=>⟨let ⟨sl,e,c⟩:=st.1;⟨sl,k I (by simp) _ e,c⟩,k a (by simp) _ st.2⟩
   item:=fun i s Q E hi st q=>by
     obtain ⟨⟨sl,e0,c1,c2⟩,ea⟩:=st;have hi':i<es.size:=by simpa using hi
     have hi2:i<t.place.size:=by omega
     have bl:=at_ i sl (by omega) c1 c2;refine Zjb (x:=(es[i]).2) (nx:=t.place[i]+1) e0 ea hd hf rfl (fun z=>ZgE hb hl hp ea hd hf ?_) fun g e1 e2=>q _ g s.toks ?_ ⟨⟨_,e1,fun j hj lt=>?_,fun j hj le=>?_⟩,e2.extBut _ _ ne ea⟩ fun b u hb e=>e2.extBut _ _ (fun z=>hb (List.mem_singleton.mpr z)) e
     · rw [bl,Array.getElem?_eq_getElem hi',Array.getElem?_eq_getElem hi2]
       exact z
     · rw [List.getElem?_map,Array.getElem?_toList,Array.getElem?_eq_getElem hi']
       rfl
     · have:=hr.le hi2 (show j≤i by omega)
       omega
     · have:=hr i j hj (by omega)
       omega
   done:=fun s Q E st q=>by
     obtain ⟨⟨sl,e0,c1,c2⟩,ea⟩:=st;have en:(es.toList.map (·.2)).length=es.size:=by simp
     rw [en] at e0 c1 c2;have bl:=at_ es.size sl (by omega) c1 c2;refine it_end hh e0 ea hd hf rfl (fun z=>ZgE hb hl hp ea hd hf ?_) fun g e2=>q g s.toks fun b u hb e=>e2 _ _ (fun z=>hb (List.mem_singleton.mpr z)) e
     rw [bl,Array.getElem?_eq_none (Nat.le_refl _)];exact z
   self:=fun i s Q E st q=>let ⟨sl,e,_⟩:=st.1;ZfW e q }
theorem Zhr {T:Addr} {ls:List Nat} (hls:∀ j∈ls,j<es.size) (hf:t.fits es.size=true) (hd:o.data=.set es ep t) (ne:a≠I) (neT:T≠I):∀ A:Around,A.handled=none→Walks prog w A I [I,T,a] [I] (ls.map fun j=>(es.getD j (0,.none)).2).length (fun i v=>(ls.map fun j=>(es.getD j (0,.none)).2)[i]?=some v)
   (fun i h=>h.get? I=some (itObj (.ref T) (i:Nat) (.ref a) es.size ep)∧IsTup h T (ls.map fun (j:Nat)=>rawInt j).toArray∧h.get? a=some o):=fun A hh =>
 { sub := fun b hb=>List.mem_cons.mpr (.inl (List.mem_singleton.mp hb))
   frame:=fun i h h' st k=>⟨k I (by simp) _ st.1,let ⟨u,e,c⟩:=st.2.1;⟨u,k T (by simp) _ e,c⟩,k a (by simp) _ st.2.2⟩
   item:=fun i s Q E hi st q=>by
     obtain ⟨e0,eT,ea⟩:=st;have hi':i<ls.length:=by simpa using hi
     have hj:=hls ls[i] (List.getElem_mem hi');refine dr_item (pl:=ls[i]) (h0:=(es[ls[i]]).1) (x:=(es[ls[i]]).2) e0 eT ?_ ?_ ea hd hf rfl fun g e1 e2=>q _ g s.toks ?_ ⟨e1,IsTup.extBut eT e2.extBut neT,e2.extBut _ _ ne ea⟩ fun b u hb e=>e2.extBut _ _ (fun z=>hb (List.mem_singleton.mpr z)) e
     · simp [hi']
     · rw [Array.getElem?_eq_getElem hj]
     · rw [List.getElem?_map,List.getElem?_eq_getElem hi']
       simp [Array.getD,hj]
   done:=fun s Q E st q=>by
     obtain ⟨e0,eT,ea⟩:=st;refine dr_end hh e0 eT ?_ ea hd hf rfl fun g e2=>q g s.toks fun b u hb e=>e2 _ _ (fun z=>hb (List.mem_singleton.mpr z)) e
     simp
   self:=fun i s Q E st q=>ZfW st.1 q }
theorem Zfr (el:ElemsOf (intKind prog w) es.toList):∀ {ls:List Nat},(∀ j∈ls,j<es.size)→IntsAre (ls.map fun j=>(es.getD j (0,.none)).2) (ls.map fun j=>iv (es.getD j (0,.none)).2)
 | [],_=>.nil
 | j::ls,h=>by
   have hj:=h j (.head _);have eg:es.getD j (0,.none)=es[j]:=by simp [Array.getD,hj]
   obtain ⟨⟨k,hk,_⟩,_⟩:=el es[j] (by simp);obtain ⟨t,e2⟩:=Value.isInt_shape hk;have:=Zfr el (ls:=ls) fun j hj=>h j (.tail _ hj)
   rw [List.map_cons,List.map_cons,eg,e2];constructor;exact this
theorem Zis (es:Array (Int × Value)):((List.range es.size).map fun j=>iv (es.getD j (0,.none)).2)=es.toList.map fun e=>iv e.2:=by
 refine List.ext_getElem (by simp) fun i h1 h2=>?_
 have hi:i<es.size:=by simpa using h1
 simp [Array.getD,hi]
theorem iter_set {ks:List Int} {Q:Value→Shared→Prop} (hS:ST prog w s.heap a ks) (q:∀ I h2 d,Wk prog w s.heap h2 a ks I→Q (.ref I) { s with heap:=h2,drawn:=d }):wpAny (model prog w) A (pyIter (.ref a)) Q E s:=by
 obtain ⟨o,es,ep,t,ho,hx,hd,el,hb,hf,gd,rfl,nd⟩:=hS;have hT:s.TypeIs (.ref a) "set":=⟨_,ho,hx.1⟩
 have la:a<s.heap.objs.size:=Heap.lt_size ho;have fr:s.heap.get? s.heap.objs.size=none:=by
   cases e:s.heap.get? s.heap.objs.size with
   | none=>rfl
   | some u=>exact absurd (Heap.lt_size e) (Nat.lt_irrefl _)
 refine wpAny_pyIter_slot hT PySem.F.slot_set_iter (wpAny_call_entry PySem.F.slot_set_iter hT ZeG ?_ (PySem.F.args_set_iter_1 _));unfold Builtin.«frozenset.__iter__»;refine wpAny_bind (m:=Builtin.Frozenset.slot0 "__iter__" ⟨[.ref a],[]⟩) (wpAny_pure ?_);refine wpAny_bind (m:=Builtin.Frozenset.sizeOf a) (wpAny_bind (wpAny_setEntries_of ho hd hf (wpAny_pure ?_)));refine wpAny_bind (m:=setDrawn a) ?_;unfold setDrawn;refine wpAny_bind (wpAny_setState_of ho hd hf (wpAny_bind (ZcB (wpAny_pure ?_))));show wpAny _ _ (if (!bt w&&(!t.plain&&decide (es.size > 1)))=true then _ else _) _ _ _;have mk:∀ (f:Value) (s1:Shared),s1.heap.get? a=some o→(∀ h2,h2=s1.heap.push (itObj f (0:Nat) (.ref a) es.size ep)→Q (.ref s1.heap.objs.size) { s1 with heap:=h2 })→wpAny (model prog w) A.in1 (do let e ← setEpoch a;let z ← newFields "set_iterator" [f,rawInt 0,Value.ref a,rawInt es.size,rawInt e];ret z) (fun fin s'=>∃ v,fin=Fin.done (Flow.ret v)∧∃ T' r,s'.TypeIs v T'∧typeLookup (Value.type T') (Str.ofString "__next__")=pure (some r)∧Q v s') E s1:=by intro f s1 e1 q1;refine wpAny_bind (wpAny_setEpoch_of e1 hd hf (wpAny_bind (m:=newFields _ _) (wpAny_newObj_type (wpAny_pure ⟨_,rfl,"set_iterator",_,⟨_,Heap.get?_push_size _ rfl,rfl⟩,slot_it_next.lookup,?_⟩))));exact q1 _ rfl
 cases hbt:bt w with
 | true =>
   rw [Bool.not_true,Bool.false_and,if_neg (by decide)];refine wpAny_bind (wpAny_pure (mk _ s ho fun h2 e2=>q _ h2 s.drawn ⟨⟨_,_,_,_,_,Zh9 hbt hf hd (Nat.ne_of_lt la),⟨?_,?_⟩,?_,.head _,fun b hb=>?_,Zfh (el.perm (ZdP _ es)),(ZdP _ es).map _,fun b hb=>?_⟩,fun b u e=>?_⟩))
   · rw [e2];exact Heap.get?_push_size _ rfl
   · rw [e2];exact Heap.get?_push_of_some _ ho
   · intro b hb
     rw [e2,ZT.size_push];rcases List.mem_cons.mp hb with z | z
     · rw [z];exact Nat.lt_succ_self _
     · rw [List.mem_singleton.mp z];exact Nat.lt_succ_of_lt la
   · rw [List.mem_singleton.mp hb];exact fr
   · rcases List.mem_cons.mp hb with z | z
     · rw [z];exact .inr fr
     · exact .inl (List.mem_singleton.mp z)
   · rw [e2];exact Heap.get?_push_of_some _ e
 | false =>
   have ld:t.led=true:=by rw [gd.led,hbt];rfl
   rw [Bool.not_false,Bool.true_and];cases hp:(!t.plain&&decide (es.size > 1)) with
   | false =>
     rw [if_neg (by decide)];have hr:Ris t.place:=by
       cases pl:t.plain with
       | true=>exact gd.ris pl
       | false =>
         rw [pl] at hp;have sp:t.place.size=es.size:=by unfold SetTable.fits at hf;simp at hf;exact hf.1
         simp at hp;intro i j hj hij;omega
     refine wpAny_bind (wpAny_pure (mk _ s ho fun h2 e2=>q _ h2 s.drawn ⟨⟨_,_,_,_,_,Zhj hbt ld hp hr hf hd (Nat.ne_of_lt la),⟨⟨0,?_,fun j _ z=>absurd z (Nat.not_lt_zero _),fun j _ _=>Nat.zero_le _⟩,?_⟩,?_,.head _,fun b hb=>?_,Zfh el,.refl _,fun b hb=>?_⟩,fun b u e=>?_⟩))
     · rw [e2];exact Heap.get?_push_size _ rfl
     · rw [e2];exact Heap.get?_push_of_some _ ho
     · intro b hb
       rw [e2,ZT.size_push];rcases List.mem_cons.mp hb with z | z
       · rw [z];exact Nat.lt_succ_self _
       · rw [List.mem_singleton.mp z];exact Nat.lt_succ_of_lt la
     · rw [List.mem_singleton.mp hb];exact fr
     · rcases List.mem_cons.mp hb with z | z
       · rw [z];exact .inr fr
       · exact .inl (List.mem_singleton.mp z)
     · rw [e2];exact Heap.get?_push_of_some _ e
   | true =>
     rw [if_pos rfl];refine wpAny_bind (Ze3 es.size (List.range es.size) s _ List.length_range fun ls d pl=>?_);have hls:∀ j∈ls,j<es.size:=fun j hj=>List.mem_range.mp (pl.mem_iff.mp hj)
     refine wpAny_bind (m:=newTuple _) (wpAny_newObj_type ?_ ?_)
     · have e0:(s.heap.push { cls:=.type "tuple",data:=.seq (ls.map fun (i:Nat)=>rawInt i).toArray }).get? a=some o:=Heap.get?_push_of_some _ ho
       have sz1:(s.heap.push { cls:=.type "tuple",data:=.seq (ls.map fun (i:Nat)=>rawInt i).toArray }).objs.size=s.heap.objs.size+1:=Heap.size_push ..;have l1:a≠(s.heap.push { cls:=.type "tuple",data:=.seq (ls.map fun (i:Nat)=>rawInt i).toArray }).objs.size:=by rw [sz1];exact Nat.ne_of_lt (Nat.lt_succ_of_lt la)
       have l2:s.heap.objs.size≠(s.heap.push { cls:=.type "tuple",data:=.seq (ls.map fun (i:Nat)=>rawInt i).toArray }).objs.size:=by rw [sz1];exact Nat.ne_of_lt (Nat.lt_succ_self _)
       refine mk _ _ e0 fun h2 e2=>q _ h2 d ⟨⟨_,_,_,_,_,Zhr (a:=a) (T:=s.heap.objs.size) hls hf hd l1 l2,⟨?_,?_,?_⟩,?_,.head _,fun b hb=>?_,Zfr el hls,?_,fun b hb=>?_⟩,fun b u e=>?_⟩
       · rw [e2];exact Heap.get?_push_size _ rfl
       · rw [e2]
         exact ⟨_,Heap.get?_push_of_some _ (Heap.get?_push_size _ rfl),rfl,_,rfl⟩
       · rw [e2];exact Heap.get?_push_of_some _ e0
       · intro b hb
         rw [e2,ZT.size_push];show b<(s.heap.push _).objs.size+1;rw [sz1];simp only [List.mem_cons,List.not_mem_nil,or_false] at hb;rcases hb with z | z | z
         · rw [z];show (s.heap.push _).objs.size<_;rw [sz1];exact Nat.lt_succ_self _
         · rw [z];exact Nat.lt_succ_of_lt (Nat.lt_succ_self _)
         · rw [z];exact Nat.lt_succ_of_lt (Nat.lt_succ_of_lt la)
       · rw [List.mem_singleton.mp hb]
         show s.heap.get? (s.heap.push _).objs.size=none;rw [sz1];cases e:s.heap.get? (s.heap.objs.size+1) with
         | none=>rfl
         | some u=>exact absurd (Heap.lt_size e) (Nat.not_lt.mpr (Nat.le_succ _))
       · have:=pl.map fun j=>iv (es.getD j (0,.none)).2
         rw [Zis] at this;exact this
       · simp only [List.mem_cons,List.not_mem_nil,or_false] at hb
         rcases hb with z | z | z
         · rw [z]
           refine .inr ?_;show s.heap.get? (s.heap.push _).objs.size=none;rw [sz1];cases e:s.heap.get? (s.heap.objs.size+1) with
           | none=>rfl
           | some u=>exact absurd (Heap.lt_size e) (Nat.not_lt.mpr (Nat.le_succ _))
         · rw [z];exact .inr fr
         · exact .inl z
       · rw [e2];exact Heap.get?_push_of_some _ (Heap.get?_push_of_some _ e)
     · show (ls.map fun (i:Nat)=>rawInt i).toArray.size≤sizeLine
       rw [List.size_toArray,List.length_map,pl.length_eq,List.length_range];exact fits_of_scanBound hb
end
end SG
namespace SG
open PySem PySem.Spec PyProof.Rows
section
variable {prog:Program}{w:World}{A:Around}{E:Value→Shared→Prop}{s:Shared}{a:Addr}
theorem Zie {vs:List Value}{acc:Array Value}(h:ItemsOf (fun i v=>vs[i]?=some v) acc vs.length):acc.toList=vs:=by
 refine List.ext_getElem (by rw [Array.length_toList,h.1]) fun i h1 h2=>?_
 have:=h.2 i acc[i] (by rw [Array.getElem?_eq_getElem (by simpa using h1)]);have this:vs[i]?=some acc[i]:=this;rw [List.getElem?_eq_getElem h2] at this;rw [Array.getElem_toList];exact (Option.some.inj this).symm
theorem hint_set {Q:Bool→Shared→Prop}(tS:s.TypeIs (.ref a) "set")(q:Q false s):wpAny (model prog w) A (Builtin.List.listLengthHint (.ref a)) Q E s:=by
 unfold Builtin.List.listLengthHint;refine wpAny_bind (wpAny_specialOf tS PySem.F.slot_set_len.lookup ?_);generalize hid:("set.__len__":String)=nm
 wp_delta
 rw [show splitId nm=some ("set","__len__") from by subst hid;decide +kernel];subst hid;refine wpAny_bind (wpAny_isInstance (T:="set") (b:=true) tS sub_set_self (wpAny_ite_split (fun z=>absurd z (by decide)) fun _=>wpAny_ite_split (fun _=>?_) fun z=>absurd (by decide +kernel) z));exact wpAny_bind (wpAny_typeOf tS (wpAny_pure q))
theorem ZgW {ks:List Int} {Q:List Value→Shared→Prop} (hh:A.handled=none) (hS:ST prog w s.heap a ks) (hz:ks.length≤sizeLine)
   (q:∀ h' tk d vs ks',(∀ b o,s.heap.get? b=some o→h'.get? b=some o)→s.heap.objs.size<h'.objs.size→IntsAre vs ks'→ks'.Perm ks→Q vs { s with heap:=h',drawn:=d,toks:=tk }):wpAny (model prog w) A (collect (.ref a)) Q E s:=by
 have la:a<s.heap.objs.size:=by obtain ⟨o,_,_,_,e,_⟩:=hS;exact Heap.lt_size e
 have tS:s.TypeIs (.ref a) "set":=by obtain ⟨o,_,_,_,e,x,_⟩:=hS;exact ⟨o,e,x.1⟩
 unfold collect;refine wpAny_bind (wpAny_runValue (codeAny_builtin PySem.F.entry_proto_collect ?_));rw [Around.under_plainId PySem.F.plain_proto_collect _];refine wpAny_bind (m:=newList []) (wpAny_newObj_type ?_);refine wpAny_pure ⟨plainId_quiet PySem.F.plain_list_iadd _,codeAny_builtin PySem.F.entry_list_iadd ?_⟩;rw [Around.under_plainId PySem.F.plain_list_iadd _];have e1:∀ b o,s.heap.get? b=some o→(s.heap.push { cls:=.type "list",data:=.seq ([]:List Value).toArray }).get? b=some o:=fun b o e=>Heap.get?_push_of_some _ e
 have n1:(s.heap.push { cls:=.type "list",data:=.seq ([]:List Value).toArray }).get? s.heap.objs.size=some { cls:=.type "list",data:=.seq #[] }:=Heap.get?_push_size _ rfl;have S1:ST prog w (s.heap.push { cls:=.type "list",data:=.seq ([]:List Value).toArray }) a ks:=hS.but (d:=a) fun o e=>e1 _ _ e
 have z1:(s.heap.push { cls:=.type "list",data:=.seq ([]:List Value).toArray }).objs.size=s.heap.objs.size+1:=Heap.size_push ..;show wpAny _ A.in1 (Builtin.List.listExtendWith (.ref s.heap.objs.size) (.ref a) (.ref s.heap.objs.size)) _ _ _;generalize hG:(s.heap.push { cls:=.type "list",data:=.seq ([]:List Value).toArray })=g1 at e1 n1 S1 z1;have tS1:Shared.TypeIs { s with heap:=g1 } (.ref a) "set":=by obtain ⟨o,e,c⟩:=tS;exact ⟨o,e1 _ _ e,c⟩
 unfold Builtin.List.listExtendWith;refine wpAny_bind (wpAny_typeOf tS1 ?_);have h1:Builtin.List.listSameRef (.ref s.heap.objs.size) (.ref a)=false:=by show (s.heap.objs.size==a)=false;exact beq_eq_false_iff_ne.mpr (Nat.ne_of_gt la)
 rw [if_neg (by rw [h1];decide)];refine wpAny_bind (iter_set (s:={ s with heap:=g1 }) S1 fun I g2 d W=>?_);have tS2:Shared.TypeIs { s with heap:=g2,drawn:=d } (.ref a) "set":=by obtain ⟨o,e,c⟩:=tS1;exact ⟨o,W.old _ _ e,c⟩
 refine wpAny_bind (wpAny_holding (hint_set tS2 ?_));obtain ⟨⟨fp,wr,vs,ks',St,Wf,st,lf,hI,hw,hi,pm,fn⟩,old⟩:=W;have Wa:=Wf A.in1 hh;have nS:s.heap.objs.size∉fp:=fun z=>by
   rcases fn _ z with y | y
   · exact Nat.ne_of_gt la y
   · rw [show (Shared.heap { s with heap:=g1 }).get? s.heap.objs.size=_ from n1] at y
     cases y
 have n2:=old _ _ n1;have lv:vs.length≤sizeLine:=by rw [IntsAre.length hi,pm.length_eq];exact hz
 have fin:∀ (g:Heap) (c:Nat) (R:Result→Shared→Prop),St 0 g→(∀ b o,b≠s.heap.objs.size→g2.get? b=some o→g.get? b=some o)→g.get? s.heap.objs.size=some { cls:=.type "list",data:=.seq #[] c }→(∀ s',wpAny (model prog w) A (load s.heap.objs.size >>= fun o=>match o.data with | .seq xs _=>pure xs.toList | _=>unsupported "internal:collect") Q E s'→R (.ok (.ret (.ref s.heap.objs.size))) s') →
     codeAny (model prog w) A (Code.builtin "list.extend.loop" ⟨[.ref s.heap.objs.size,.ref I,.ref s.heap.objs.size],[]⟩) R { s with heap:=g,drawn:=d }:=by
   intro g c R st0 k0 g0 hR;refine codeAny_extend_loopS Wa.toS lv s.heap.objs.size nS (.ref s.heap.objs.size) vs.length 0 _ #[] c rfl (Nat.zero_le _) st0 g0 (ItemsOf.nil _) fun s' acc' c' hm hS' hacc=>?_
   have eh:∀ b o,s.heap.get? b=some o→s'.heap.get? b=some o:=fun b o e=>by
     refine hm.heap b o (fun z=>?_) (k0 b o (Nat.ne_of_lt (Heap.lt_size e)) (old _ _ (e1 _ _ e)));rcases List.mem_cons.mp z with z | z
     · exact Nat.ne_of_lt (Heap.lt_size e) z
     · have:=hw b z
       rw [show (Shared.heap { s with heap:=g1 }).get? b=some o from e1 _ _ e] at this;cases this
   obtain ⟨h',ge,dr,tk,os⟩:=s';have e1:ge=s.gens:=hm.gens;have e2:dr=d:=hm.drawn;have e3:os=s.os:=hm.os;subst e1 e2 e3;refine hR _ (wpAny_bind (wpAny_load hS' (wpAny_pure ?_)));rw [Zie hacc];exact q h' tk dr vs ks' eh (Heap.lt_size hS') hi pm
 refine wpAny_ite_split (fun _=>?_) (fun _=>wpAny_pure ⟨plainId_quiet PySem.F.plain_extend_loop _,fin g2 _ _ st (fun b o _ e=>e) n2 fun s' z=>z⟩);refine wpAny_bind (wpAny_rule (wpAny_bind ?_));refine wpAny_bind (m:=updateSeq s.heap.objs.size (·.push .none)) (wpAny_updateSeq n2 rfl ?_);have n3:=Heap.get?_update_self (Obj.mapSeq (·.push Value.none)) n2 rfl;refine wpAny_updateSeq (hz:=by seq_fits) n3 rfl ?_;have n4:=Heap.get?_update_self (Obj.mapSeq (·.pop)) n3 rfl;have oth:∀ b o,b≠s.heap.objs.size→g2.get? b=some o→((g2.update s.heap.objs.size (Obj.mapSeq (·.push Value.none))).update s.heap.objs.size (Obj.mapSeq (·.pop))).get? b=some o:=fun b o ne e=>(Heap.get?_update_other _ _ (Ne.symm ne)).trans ((Heap.get?_update_other _ _ (Ne.symm ne)).trans e)
 exact wpAny_pure ⟨plainId_quiet PySem.F.plain_extend_loop _,fin _ _ _ (Wa.frame 0 _ _ st fun b hb o e=>oth b o (fun z=>nS (z ▸ hb)) e) oth n4 fun s' z=>z⟩
end
end SG
namespace SG
open PySem PySem.Spec PyProof.Rows Srt
section
variable {prog:Program}{w:World}{Ar:Around}{E:Value→Shared→Prop}{s:Shared}{a:Addr}
theorem sorted_set {ks:List Int}{Q:Value→Shared→Prop}(hh:Ar.handled=none)(hS:ST prog w s.heap a ks)(hz:ks.length≤sizeLine)
   (q:∀ (h':Heap) (tk:Nat) (d:Drawn) (l:Addr) (out:Array Value) (ns:List Int) (e:Nat),(∀ b o,s.heap.get? b=some o→h'.get? b=some o)→s.heap.objs.size≤l→h'.get? l=some (seqObj "list" out e)→IntsAre out.toList ns→ns.Perm ks→ns.Pairwise (·≤·)→Q (.ref l) { s with heap:=h',drawn:=d,toks:=tk }) :
   wpAny (model prog w) Ar (call (.builtin "sorted") [.ref a]) Q E s:=by
 refine Calls.call_function_entry kind_sorted plain_sorted entry_sorted (args_sorted1 _) ?_;unfold Builtin.«sorted»;refine wpAny_bind (m:=checkCount "sorted" 1 1 _) (wpAny_pure (wpAny_bind (ZgW (show Ar.in1.handled=none from hh) hS hz fun h1 tk d vs ks' old lt hi pm=>?_)));have lv:vs.length≤sizeLine:=by rw [IntsAre.length hi,pm.length_eq];exact hz
 refine wpAny_bind (wpAny_newList ?_ (by simpa using lv));have oL:(h1.push (seqObj "list" vs.toArray 0)).get? h1.objs.size=some (seqObj "list" vs.toArray 0):=Heap.get?_push_size _ rfl;have la:s.heap.objs.size≤h1.objs.size:=Nat.le_of_lt lt;show wpAny _ _ _ _ _ { s with heap:=h1.push (seqObj "list" vs.toArray 0),drawn:=d,toks:=tk };refine wpAny_bind (wpAny_holding (wpAny_call_entry slot_list_sort ⟨_,oL,rfl⟩ entry_list_sort (sort_ints oL hi lv fun out ns' g1 g2 g3=>⟨_,rfl,?_⟩) (args_list_sort _)));obtain ⟨e,he⟩:=sortedHeap_at (out:=out) oL;refine wpAny_pure ⟨_,rfl,q _ tk d h1.objs.size out ns' e (fun b o e=>?_) la he g1 (g2.trans pm) g3⟩;have e2:=old b o e;have lb:b<h1.objs.size:=Heap.lt_size e2;rw [sortedHeap_old (Nat.ne_of_lt lb) (by rw [size_push'];exact Nat.lt_succ_of_lt lb)];exact Heap.get?_push_of_some _ e2
end
end SG
namespace L2
open PySem PySem.Spec PyProof.Rows
theorem ZgX:bootBuiltins "set"=some (.type "set"):=by decide +kernel
section
variable {X:Cx}{pins:List (Addr × Obj)}{σ:St}{H:Hp}{s:Shared}
theorem Inv.redrawn (I:Inv X pins σ H s)(d:Drawn):Inv X pins σ H { s with drawn:=d }:=by exact ⟨I.ok,I.os,I.bare,I.base,I.loc,I.cell,I.free,I.freeC,I.pin,I.hok,I.len⟩
end
section
variable {X:Cx}{e:Expr}{te:TE}{p p' pos pos':Pos}
end
end L2
namespace L2
open PySem PySem.Spec PyProof.Rows
def cxLam (P:Program)(w:World)(K:PySem.W.Frag)(mg:Str→Option Value)(base:Heap)(N:List Str)(qual:Str)(scope:Scope)(f:Addr)(cd:Value)(cl:List (Str × Addr))(A:Around)(outer:List Env)(s:Shared)(H:Hp):Cx where
 prog:=P
 w:=w
 K:=K
 mg:=mg
 base:=base
 A:=A.deeper (PySem.W.envX qual scope s.heap.objs.size f cd cl)
 N:=N
 s₀:=s
 H₀:=H
 env:=PySem.W.envX qual scope s.heap.objs.size f cd cl
 outer:=outer
 stack:=PySem.W.envX qual scope s.heap.objs.size f cd cl::outer
 ex:=[]
 calm:=true
 fn:=fun _=>false
 pn:=[]
 xe:=fun _ _=>False
structure LamScope (p:Str)(caps:List Str)(sc:Scope):Prop where
 kind:sc.kind=.function
 co:sc.isCoroutine=false
 gen:sc.isGenerator=false
 nd:(p::caps).Nodup
 par:sc.names.lookup p=some .local
 cap:∀ x∈caps,sc.names.lookup x=some .free
 has:∀ x,sc.names.lookup x=some .free→x∈caps
 nocell:∀ x∈sc.names,x.2≠.cell
theorem LamScope.nolook {p:Str}{caps:List Str}{sc:Scope}(S:LamScope p caps sc)(x:Str):sc.names.lookup x≠some .cell:=fun h=>S.nocell _ (PySem.mem_of_lookup h) rfl
structure LamCells (h:Heap)(caps:List Str)(cl:List (Str × Addr))(cvs:List V):Prop where
 at_:∀ (i:Nat) (x:Str),caps[i]?=some x→∃ (c:Addr) (u:Value) (v:V),cl.lookup x=some c∧h.IsCell c (some u)∧cvs[i]?=some v∧RelV v u
 inj:∀ x y c,cl.lookup x=some c→cl.lookup y=some c→x=y
 all:∀ x c,cl.lookup x=some c→∃ v,h.IsCell c v
 len:cvs.length=caps.length
abbrev Fz (o:Obj):HO:=.frz o (.own 0)
def CodeO (oc:Obj)(qual:Str):Prop:=∃ (vs:Array Value) (t:Tok),oc.data=.fields vs∧vs[1]?=some (.str qual t)
section
variable {P:Program}{w:World}{K:PySem.W.Frag}{mg:Str→Option Value}{base:Heap}{k:Nat}{f c':Addr}{oc:Obj}{name qual p:Str}{caps:List Str}{params:Arguments}{body:Expr}{scope:Scope}{cl:List (Str × Addr)}{pm ctv:Value}{cvs:List V}{tb:TE}
theorem fn_lam (hcd:CodeO oc qual) (S:LamScope p caps scope) (C:LamCells base caps cl cvs)
   (hbody:∀ (A:Around) (outer:List Env) (s:Shared) (H:Hp),Room k (A.deeper (PySem.W.envX qual scope s.heap.objs.size f (.ref c') cl))→PE (cxLam P w K mg base (p::caps) qual scope f (.ref c') cl A outer s H) body tb) :
   FnOk P w K mg base CX0 (k+1) f (PySem.W.kla_fn name qual params body scope cl pm (.ref c') ctv) [p] (fun vs H Q _=>∃ x,vs=[x]∧H f=some (Fz (PySem.W.kla_obj name qual params body scope cl pm c' ctv))∧H c'=some (Fz oc)∧tb (some x::cvs.map some) H Q):=by
 refine ⟨fun vs H Q E h=>by obtain ⟨x,rfl,_⟩:=h;rfl,fun A outer s H args us vs Q E hr e0 hb r hsp=>?_⟩;obtain ⟨x,rfl,hf,hc,ht⟩:=hsp;obtain ⟨u,rfl,ru⟩:=r.one;have lim:s.heap.NoLimit:=e0.mod.nolimit.keeps fun b o e=>(e0.bs b o e).1
 have hfo:s.heap.get? f=some (PySem.W.kla_obj name qual params body scope cl pm c' ctv):=(e0.hok f _ hf).1;have hcr:s.heap.CodeRec (.ref c') qual:=by obtain ⟨vs,t,e1,e2⟩:=hcd;exact ⟨c',oc,vs,t,rfl,(e0.hok c' _ hc).1,e1,e2⟩
 refine PySem.W.kla_callFunE hr.depth hfo rfl S.co S.gen rfl hcr (hb _ _ _ _ ?_);refine wpAny_newFunctionEnv S.nocell (fun y hy=>?_) (fun h1 hns hsb=>⟨lim.fresh _ hsb,?_⟩) S.kind
 · have:y=(p,u):=by simpa using hy
   rw [this];exact S.par
 have hk:∀ b o,s.heap.get? b=some o→h1.get? b=some o:=fun b o e=>hsb.extBut b o (Nat.ne_of_lt (Heap.lt_size e)) (Heap.get?_push_of_some _ e)
 have kc:∀ {c:Addr} {v:Option Value},base.IsCell c v→h1.IsCell c v∧H c=none:=fun {c v} z=>by
   obtain ⟨o,e,d⟩:=z;exact ⟨⟨o,hk _ _ (e0.bs _ _ e).1,d⟩,(e0.bs _ _ e).2⟩
 have I:Inv (cxLam P w K mg base (p::caps) qual scope f (.ref c') cl A outer s H) [] (some x::cvs.map some) H { s with heap:=h1,toks:=s.toks+1 }:=by
   refine ⟨⟨e0.mod,S.kind,rfl,rfl,Nat.le_refl _,C.inj,fun y hy=>?_,(fun y c h=>nomatch h),fun _=>hr.hd,Around.frames_deeper e0.frames,.inr ⟨rfl,rfl⟩,fun b z=>absurd (show b∈([]:List Addr) from z) (by simp),e0.bs,e0.bsz,fun b _ _ z=>absurd (show b∈([]:List Addr) from z) (by simp),fun b z=>absurd (show b∈([]:List Addr) from z) (by simp),e0.funs,e0.frf⟩,
     rfl,e0.bare,Un.kept hk,⟨_,hns,fun i y v h1 h2 h3=>?_⟩,fun y c h=>?_,e0.hok.fresh (Nat.le_refl _),fun y c h=>?_,fun q hq=>absurd (show q∈([]:List (Addr × Obj)) from hq) (by simp),e0.hok.kept hk,?_⟩
   · have hy:scope.names.lookup y=some .cell∨scope.names.lookup y=some .free:=hy
     rcases hy with hy | hy
     · exact absurd hy (S.nolook y)
     · obtain ⟨i,hi,e⟩:=List.mem_iff_getElem.mp (S.has y hy)
       obtain ⟨c,_,_,h,_⟩:=C.at_ i y (by rw [List.getElem?_eq_getElem hi,e]);exact ⟨c,h⟩
   · cases i with
     | zero =>
       cases (show p=y from Option.some.inj h1);cases (show x=v from Option.some.inj (Option.some.inj h2));exact ⟨u,ru,.inl ⟨S.par,by simp⟩⟩
     | succ i =>
       have h1:caps[i]?=some y:=h1;obtain ⟨c,u2,v2,e1,e2,e3,e4⟩:=C.at_ i y h1;have h2:(cvs.map some)[i]?=some (some v):=h2;rw [List.getElem?_map,e3] at h2;cases (show v2=v from Option.some.inj (Option.some.inj h2));exact ⟨u2,e4,.inr ⟨.inr (S.cap y (List.mem_of_getElem? h1)),c,e1,(kc e2).1⟩⟩
   · obtain ⟨v,e⟩:=C.all y c h
     exact ⟨v,(kc e).1⟩
   · obtain ⟨v,e⟩:=C.all y c h
     exact (kc e).2
   · show (some x::cvs.map some).length=(p::caps).length
     rw [List.length_cons,List.length_cons,List.length_map,C.len]
 refine PySem.W.kla_codeExpr (wpAny_mono (hbody A outer s H (hr.deeper _) [] _ _ H Q I ht) (fun v s' hs=>?_) fun e s' hs=>hs.elim);obtain ⟨v,H',J,rv,q⟩:=hs;exact ⟨v,H',J.os,J.bare,J.base,J.hok,rv,q⟩
end
def LamAt (P:Program)(w:World)(K:PySem.W.Frag)(mg:Str→Option Value)(base:Heap)(k:Nat)(f:Addr)(ps:List Str)(sp:Sp):Prop :=
 ∃ fd:FuncData,FnOk P w K mg base CX0 k f fd ps sp∧Binds K fd ps []
def tCallV (P:Program)(w:World)(K:PySem.W.Frag)(mg:Str→Option Value)(base:Heap)(k:Nat)(i:Nat)(t:TA):TE:=fun σ H Q=>∃ (f:Addr) (o:Obj) (fd:FuncData) (ps:List Str) (sp:Sp),
 σ[i]?=some (some (.ref f))∧H f=some (Fz o)∧o.data=.func fd∧LamAt P w K mg base k f ps sp∧t σ H fun vs H1=>H1 f=some (Fz o)∧sp vs H1 Q E0
theorem Zfx {P:Program}{w:World}{K:PySem.W.Frag}{mg:Str→Option Value}{base:Heap}{k i:Nat}{t:TA}{σ:St}{H:Hp}{Q:VK}:tCallV P w K mg base k i t σ H Q=∃ (f:Addr) (o:Obj) (fd:FuncData) (ps:List Str) (sp:Sp),
 σ[i]?=some (some (.ref f))∧H f=some (Fz o)∧o.data=.func fd∧LamAt P w K mg base k f ps sp∧t σ H fun vs H1=>H1 f=some (Fz o)∧sp vs H1 Q E0:=rfl
section
variable {X:Cx}{x:Str}{k:Nat}{e:Expr}{es:List Expr}{t:TA}{p pos:Pos}
theorem pe_callV (i:Nat)(hr:Room k X.A)(ha:PA X (e::es) t)(hN:X.N[i]?=some x:=by rfl)(hv:Vis X.env.scope x:=by first | exact Or.inl rfl | exact Or.inr (Or.inl rfl) | exact Or.inr (Or.inr rfl))(hd:(x==("__debug__":Str))=false:=by decide)(hcd:(x==("__classdict__":Str))=false:=by decide)
   (he:starEach (e::es) X.env=(false,eval e X.env)::starEach es X.env:=by rfl) (hpl:(backTo pos (starEach es X.env)).any (·.1)=false:=by rfl):PE X (.Call (.Name x p) (e::es) [] pos) (tCallV X.prog X.w X.K X.mg X.base k i t):=by
 intro pins s σ H Q I h;obtain ⟨f,o,fd,ps,sp,hs,hf,ho,⟨fd2,F,B⟩,h⟩:=h;have pn:PE X (.Name x p) (tVar i):=pv i hN hv hd hcd;refine wpAny_Call_Name_kw (thn (pn pins s σ H (fun v H1=>v=.ref f∧H1=H) I ?_) fun u s1 ⟨v,H1,I1,r1,e1,e2⟩=>?_)
 · exact ⟨.ref f,hs,rfl,rfl⟩
 subst e1 e2;cases r1;have fa:∀ {s2:Shared} {H2:Hp},Inv X pins σ H2 s2→H2 f=some (Fz o)→PySem.W.FnAt f s2.heap:=fun {s2 H2} J z=>by
   obtain ⟨oc,od,dat,sl⟩:=o;have ho:dat=.func fd:=ho;subst ho;exact ⟨oc,od,fd,sl,(J.hok f _ z).1⟩
 refine PySem.W.callWith_F (fa I1 hf) (thn (ha pos pins s1 σ H1 _ I1 h) fun us s2 ⟨vs,H2,I2,r,hf2,q⟩=>⟨fa I2 hf2,?_⟩) he hpl;have q':sp (vs++[]) H2 Q E0:=by rw [List.append_nil];exact q
 exact ZfR F hr B .nil pass0 I2 r q'
end
end L2
namespace L2
open PySem PySem.Spec PyProof.Rows
section
variable {X:Cx}{pins:List (Addr × Obj)}{σ:St}{H:Hp}{s:Shared}{h':Heap}
theorem Inv.grown {t':Nat} {Pt c f:Addr} {ts more:Array Value} {oc fo:Obj} (I:Inv X pins σ H s) (hP:H Pt=some (.tbl ts)) (k:∀ b u,b≠Pt→s.heap.get? b=some u→h'.get? b=some u) (hP':h'.get? Pt=some { cls:=.none,data:=.fields (ts++more) })
   (hc:(s.heap.objs.size≤c∨H c=some (Fz oc))∧h'.get? c=some oc) (hf:s.heap.objs.size≤f) (hf':h'.get? f=some fo) (nc:c≠f) (ncP:c≠Pt):Inv X pins σ (upd (upd (upd H Pt (.tbl (ts++more))) c (Fz oc)) f (Fz fo)) { s with heap:=h',toks:=t' }:=by
 have lP:Pt<s.heap.objs.size:=Heap.lt_size (show s.heap.get? Pt=some _ from I.hok Pt _ hP);have nfP:f≠Pt:=Nat.ne_of_gt (Nat.lt_of_lt_of_le lP hf);have neF:∀ b u,s.heap.get? b=some u→b≠f:=fun b u e z=>absurd (Nat.lt_of_lt_of_le (Heap.lt_size e) (by rw [z];exact hf)) (Nat.lt_irrefl _)
 have nF:H f=none:=I.hok.fresh hf;have same:∀ b o,H b=some o→b≠Pt→b≠c→upd (upd (upd H Pt (.tbl (ts++more))) c (Fz oc)) f (Fz fo) b=some o:=fun b o e n1 n2=>by
   rw [Zag (Zar e nF),Zag n2,Zag n1];exact e
 have keepAll:∀ b o,H b=some o→(∀ ps,o≠.tbl ps)→upd (upd (upd H Pt (.tbl (ts++more))) c (Fz oc)) f (Fz fo) b=some o:=fun b o e n=>by
   have n1:b≠Pt:=fun z=>by rw [z,hP] at e;cases e;exact n _ rfl
   by_cases n2:b=c
   · rcases hc.1 with z | z
     · have:=I.hok.fresh z
       rw [← n2,e] at this;cases this
     · rw [← n2,e] at z
       cases z;rw [Zag (Zar e nF),n2,Zac]
   · exact same b o e n1 n2
 refine I.step (g':=s.gens) (d':=s.drawn) (ch:=[]) (fun _ z=>nomatch z) (fun b u _ _ _ e n=>k b u (fun z=>by rw [z,hP] at n;cases n) e) (fun b u _ _ _ e n=>⟨u.slots,k b u (fun z=>by rw [z,hP] at n;cases n) e⟩) (fun b u _ e n=>?_) (fun b u _ e=>?_) (fun b xs e=>keepAll b _ e fun ps z=>by cases z) (fun b u v e=>keepAll b _ e fun ps z=>by cases z) (fun b ps e=>?_) (fun m hm=>?_) (fun b u e=>?_) I.bare
 · rw [Zag (neF b u e),Zag,Zag]
   · exact n
   · exact fun z=>by rw [z,hP] at n;cases n
   · intro z
     rcases hc.1 with y | y
     · rw [z] at e
       exact absurd (Nat.lt_of_lt_of_le (Heap.lt_size e) y) (Nat.lt_irrefl _)
     · rw [z,y] at n
       cases n
 · by_cases z:b=Pt
   · rw [z];exact ⟨_,hP'⟩
   · exact ⟨u,k b u z e⟩
 · by_cases z:b=Pt
   · rw [z,hP] at e
     cases e;exact ⟨more,by rw [z,Zag (Ne.symm nfP),Zag (Ne.symm ncP),Zac]⟩
   · refine ⟨#[],?_⟩
     have n2:b≠c:=fun y=>by
       rcases hc.1 with q | q
       · have:=I.hok.fresh q
         rw [← y,e] at this;cases this
       · rw [← y,e] at q;cases q
     rw [same b _ e z n2];simp
 · obtain ⟨u,es,ep,ho,r⟩:=hm
   exact ⟨u,es,ep,k _ u (fun z=>by have:=I.free;rw [z,hP] at this;cases this) ho,r⟩
 · by_cases q1:b=f
   · rw [q1,Zac] at e
     cases e;rw [q1];exact ⟨hf',⟨fo,hf'⟩⟩
   · rw [Zag q1] at e
     by_cases q2:b=c
     · rw [q2,Zac] at e
       cases e;rw [q2];exact ⟨hc.2,⟨oc,hc.2⟩⟩
     · rw [Zag q2] at e
       by_cases q3:b=Pt
       · rw [q3,Zac] at e
         cases e;rw [q3];exact hP'
       · rw [Zag q3] at e
         refine (I.hok b u e).stay (fun c' v hc' q=>k c' v ?_ q) (fun c' q=>keepAll c' _ q fun ps z=>by cases z) fun c' xs q=>keepAll c' _ q fun ps z=>by cases z
         rcases hc' with z | z
         · rw [z];exact q3
         · intro y;rw [y,hP] at z;cases z
end
def Tb (H:Hp)(Pt:Addr)(qual:Str)(lp:Pos):Prop:=H Pt=some (.tbl #[])∨∃ (c:Addr) (oc:Obj),H Pt=some (.tbl #[rawInt lp.line,rawInt lp.col,.ref c])∧H c=some (Fz oc)∧CodeO oc qual∧c≠Pt
theorem Tb.same {H H':Hp}{Pt:Addr}{qual:Str}{lp:Pos}(h:Tb H Pt qual lp)(s:Same H H'):Tb H' Pt qual lp:=by
 rcases h with h | ⟨c,oc,h1,h2,h3⟩
 · exact .inl (s _ _ h)
 · exact .inr ⟨c,oc,s _ _ h1,s _ _ h2,h3⟩
def SameT (Pt:Addr)(H H':Hp):Prop:=∀ b o,b≠Pt→H b=some o→H' b=some o
structure LamIn (X:Cx)(pn:Str)(caps:List Str)(ixs:List Nat)(scope:Scope)(clos:List (Str × Addr))(c Pt:Addr):Prop where
 sc:LamScope pn caps scope
 code:X.env.code=.ref c
 hd:PySem.W.CodeHd X.base c Pt
 cl:closureFor scope X.env=pure clos
 sub:∀ y a,clos.lookup y=some a→X.env.cells.lookup y=some a
 ix:∀ (i:Nat) (y:Str),caps[i]?=some y→∃ (j:Nat) (a:Addr),ixs[i]?=some j∧X.N[j]?=some y∧X.env.scope.names.lookup y=some .cell∧clos.lookup y=some a
 len:ixs.length=caps.length
 fn:∀ x,X.fn x=true
 blt:X.base.BuiltinsAt X.mg Pt
 ng:mainGlobals≠Pt
def valAt (σ:St)(j:Nat):V:=((σ[j]?).getD none).getD .non
structure Ready (P:Program)(w:World)(K:PySem.W.Frag)(mg:Str→Option Value)(base:Heap)(k:Nat)(pn:Str)(tb:TE)(cvs:List V)(H0 H:Hp)(f:Addr):Prop where
 ex:∃ (o:Obj) (fd:FuncData) (c:Addr) (oc:Obj),H f=some (Fz o)∧o.data=.func fd∧H c=some (Fz oc)∧H0 f=none ∧
   LamAt P w K mg base k f [pn] (fun vs H Q _=>∃ x,vs=[x]∧H f=some (Fz o)∧H c=some (Fz oc)∧tb (some x::cvs.map some) H Q)
def tCallLam (P:Program)(w:World)(K:PySem.W.Frag)(mg:Str→Option Value)(k:Nat)(pn:Str)(ixs:List Nat)(Pt:Addr)(qual:Str)(lp:Pos)(spg:Heap→Sp)(te tb:TE):TE:=fun σ H Q=>te σ H fun v H1 =>
 (∀ j∈ixs,∃ u,σ[j]?=some (some u))∧Tb H1 Pt qual lp∧∀ base' f H2,SameT Pt H1 H2→Tb H2 Pt qual lp→Ready P w K mg base' k pn tb (ixs.map (valAt σ)) H1 H2 f→spg base' [v,.ref f] H2 Q E0
theorem Zd2 {P:Program}{w:World}{K:PySem.W.Frag}{mg:Str→Option Value}{k:Nat}{pn:Str}{ixs:List Nat}{Pt:Addr}{qual:Str}{lp:Pos}{spg:Heap→Sp}{te tb:TE}{σ:St}{H:Hp}{Q:VK}:tCallLam P w K mg k pn ixs Pt qual lp spg te tb σ H Q=te σ H fun v H1 =>
 (∀ j∈ixs,∃ u,σ[j]?=some (some u))∧Tb H1 Pt qual lp∧∀ base' f H2,SameT Pt H1 H2→Tb H2 Pt qual lp→Ready P w K mg base' k pn tb (ixs.map (valAt σ)) H1 H2 f→spg base' [v,.ref f] H2 Q E0:=rfl
section
variable {X:Cx}{pins:List (Addr × Obj)}{σ:St}{H:Hp}{s:Shared}
open Classical in
noncomputable def withCells (h base:Heap) (clos:List (Str × Addr)):Heap:=hidT h (fun b=>if (∃ o,base.get? b=some o)∨∃ y,clos.lookup y=some b then none else some (.tbl #[]))
theorem ZbS {h base:Heap}{clos:List (Str × Addr)}{b:Addr}{o:Obj}(e:h.get? b=some o)(a:(∃ o,base.get? b=some o)∨∃ y,clos.lookup y=some b):(withCells h base clos).get? b=some o :=
 Zho e (by rw [if_pos a])
theorem Zdl {h base:Heap}{clos:List (Str × Addr)}{b:Addr}{o:Obj}(e:(withCells h base clos).get? b=some o):h.get? b=some o∧((∃ o,base.get? b=some o)∨∃ y,clos.lookup y=some b):=by obtain ⟨e1,e2⟩:=Zjs e;refine ⟨e1,Classical.byContradiction fun n=>?_⟩;rw [if_neg n] at e2;cases e2
theorem Inv.env1 {pn:Str} {caps:List Str} {ixs:List Nat} {scope:Scope} {clos:List (Str × Addr)} {c Pt:Addr} (L:LamIn X pn caps ixs scope clos c Pt) (I:Inv X pins σ H s):Env0 X.prog X.w X.K X.mg (withCells s.heap X.base clos) X.A X.stack s H:=by
 have e0:=I.env0;have up:∀ b o,X.base.get? b=some o→(withCells s.heap X.base clos).get? b=some o:=fun b o e=>ZbS (e0.bs b o e).1 (.inl ⟨o,e⟩)
 refine ⟨e0.frames,?_,fun b o e=>?_,Nat.le_of_eq (Zfg _ _),?_,e0.frf,e0.hok,e0.bare⟩
 · obtain ⟨m1,m2,⟨mb,m3,m4⟩,m5⟩:=e0.mod
   exact ⟨m1.keeps up,m2.keeps up,⟨mb,m3.keeps up,m4⟩,m5.keeps up⟩
 · obtain ⟨e1,e2⟩:=Zdl e
   rcases e2 with ⟨o',e2⟩ | ⟨y,e2⟩
   · obtain ⟨a1,a2⟩:=e0.bs b o' e2
     exact ⟨e1,a2⟩
   · exact ⟨e1,I.freeC y b (L.sub y b e2)⟩
 · have cab:∀ y b,clos.lookup y=some b→X.s₀.heap.objs.size≤b:=fun y b e=>I.ok.cab y b (L.fn y) (L.sub y b e)
   have key:∀ l:List Env,(∀ e∈l,∀ Lf,e.frame=some Lf→(X.base.get? Lf=none→(withCells s.heap X.base clos).get? Lf=none))→s.heap.FunFrames X.base l→s.heap.FunFrames (withCells s.heap X.base clos) l:=by
     intro l;induction l with
     | nil=>exact fun _ _=>trivial
     | cons env rest ih =>
       intro h1 h2;obtain ⟨a1,⟨Lf,o,a2,a3,a4,a5⟩,a6⟩:=h2;exact ⟨a1,⟨Lf,o,a2,h1 env (.head _) Lf a2 a3,a4,a5⟩,ih (fun e he=>h1 e (.tail _ he)) a6⟩
   refine key X.stack (fun e he Lf hL hb=>?_) e0.funs;cases q:(withCells s.heap X.base clos).get? Lf with
   | none=>rfl
   | some o =>
     exfalso
     obtain ⟨q1,q2⟩:=Zdl q;rcases q2 with ⟨o',q2⟩ | ⟨y,q2⟩
     · rw [q2] at hb;cases hb
     · obtain ⟨v,oc,z1,z2⟩:=I.cell y Lf (L.sub y Lf q2)
       have out:e∈X.outer→False:=fun ho=>by
         have lt:∀ l:List Env,e∈l→X.s₀.heap.FunFrames X.base l→Lf<X.s₀.heap.objs.size:=by
           intro l;induction l with
           | nil=>intro z;cases z
           | cons env rest ih =>
             intro z h2;obtain ⟨_,⟨L2,o2,a2,_,a4,_⟩,a6⟩:=h2;rcases List.mem_cons.mp z with z | z
             · rw [← z,hL] at a2
               cases a2;exact Heap.lt_size a4
             · exact ih z a6
         exact absurd (lt X.outer ho I.ok.funs) (Nat.not_lt.mpr (cab y Lf q2))
       rcases I.ok.stk with z | ⟨z,zf⟩
       · exact out (by rw [← z];exact he)
       · rw [z] at he
         rcases List.mem_cons.mp he with he | he
         · rw [he,zf] at hL
           cases hL;obtain ⟨m,⟨u,es,epn,hu,du,_⟩,_⟩:=I.loc;rw [hu] at z1;cases z1;rw [du] at z2;cases z2
         · exact out he
end
section
variable {X:Cx}{pn g a1 a2:Str}{caps:List Str}{ixs:List Nat}{params:Arguments}{scope:Scope}{clos:List (Str × Addr)}{c Pt:Addr}{body e1:Expr}{lp p pos:Pos}{te tb:TE}{k kg:Nat}{spg:Heap→Sp}
theorem cells_of {pins:List (Addr × Obj)}{σ:St}{H:Hp}{s:Shared}(L:LamIn X pn caps ixs scope clos c Pt)(I:Inv X pins σ H s)(hv:∀ j∈ixs,∃ u,σ[j]?=some (some u)):LamCells (withCells s.heap X.base clos) caps clos (ixs.map (valAt σ)):=by
 refine ⟨fun i y hy=>?_,fun x y b h1 h2=>I.ok.inj x y b (L.sub _ _ h1) (L.sub _ _ h2),fun y b h=>?_,by rw [List.length_map];exact L.len⟩
 · obtain ⟨j,a,h1,h2,h3,h4⟩:=L.ix i y hy
   obtain ⟨v,hv⟩:=hv j (List.mem_of_getElem? h1);obtain ⟨m,hn,hl⟩:=I.loc;obtain ⟨u,ru,hlk⟩:=hl j y v h2 hv (.inr (.inl h3));rcases hlk with ⟨q,_⟩ | ⟨_,b,hb,hc⟩
   · rw [show X.env.kindOf y=_ from h3] at q
     cases q
   · have:b=a:=Option.some.inj (hb.symm.trans (L.sub y a h4))
     subst this;obtain ⟨o,ho,hd⟩:=hc;refine ⟨b,u,v,h4,⟨o,ZbS ho (.inr ⟨y,h4⟩),hd⟩,?_,ru⟩;rw [List.getElem?_map,h1];show some (valAt σ j)=some v;unfold valAt;rw [hv];rfl
 · obtain ⟨v,o,ho,hd⟩:=I.cell y b (L.sub _ _ h)
   exact ⟨v,o,ZbS ho (.inr ⟨y,h⟩),hd⟩
end
end L2
namespace L2
open PySem PySem.Spec PyProof.Rows
section
variable {X:Cx}{pn g:Str}{ps:List Str}{caps:List Str}{ixs:List Nat}{params:Arguments}{scope:Scope}{clos:List (Str × Addr)}{c Pt:Addr}{body e1:Expr}{lp p pos:Pos}{te tb:TE}{k kg:Nat}{spg:Heap→Sp}
theorem make_lam {pins:List (Addr × Obj)}{σ:St}{H:Hp}{s:Shared}{Q:Value→Shared→Prop}(L:LamIn X pn caps ixs scope clos c Pt)(hdef:defaultsOf params X.env=([],[]))(I:Inv X pins σ H s)(ht:Tb H Pt (X.env.qual++"<lambda>") lp)
   (q:∀ f c' oc pm ctv h' tk H2,H2 f=some (Fz (PySem.W.kla_obj "<lambda>" (X.env.qual++"<lambda>") params body scope clos pm c' ctv))→H2 c'=some (Fz oc)→CodeO oc (X.env.qual++"<lambda>")→H f=none→SameT Pt H H2→Tb H2 Pt (X.env.qual++"<lambda>") lp→Inv X pins σ H2 { s with heap:=h',toks:=tk }→Q (.ref f) { s with heap:=h',toks:=tk }) :
   wpAny (model X.prog X.w) X.A (eval (.Lambda params body scope lp) X.env) Q X.xe s:=by
 have hg:s.heap.Ns mainGlobals X.mg:=I.mod.glob.keeps I.bk;have C:PySem.W.CodeHd s.heap c Pt:=L.hd.keeps I.bk;have hB:s.heap.BuiltinsAt X.mg Pt:=by obtain ⟨bm,o,b1,b2,b3,b4,b5,r⟩:=L.blt;exact ⟨bm,o,b1,b2,b3,b4,I.bk _ _ b5,r⟩
 refine PySem.W.kla_eval hdef ?_;have lt:∀ {ts:Array Value},H Pt=some (.tbl ts)→Pt<s.heap.objs.size:=fun h=>Heap.lt_size (show s.heap.get? Pt=some _ from I.hok Pt _ h)
 rcases ht with h0 | ⟨c0,oc,h0,hc0,hco,ncP⟩
 · refine PySem.W.kla_makeFunction L.cl I.ok.glob hg L.code C (I.hok Pt _ h0) trivial rfl L.ng hB fun c' ctv h' tk hx hge hlt hrec htb=>?_
   obtain ⟨c2,oc,vs,t,e1,e2,e3,e4⟩:=hrec;cases e1;have ncP:c'≠Pt:=Nat.ne_of_gt (Nat.lt_of_lt_of_le (lt h0) hge);have lf:s.heap.objs.size≤h'.objs.size:=Nat.le_of_lt (Nat.lt_of_le_of_lt hge hlt);have nf:h'.objs.size≠Pt:=Nat.ne_of_gt (Nat.lt_of_lt_of_le (lt h0) lf);have J:=I.grown (t':=tk) (more:=#[rawInt lp.line,rawInt lp.col,.ref c']) (h':=h'.push (PySem.W.kla_obj "<lambda>" (X.env.qual++"<lambda>") params body scope clos ((X.mg "__name__").getD .none) c' ctv)) h0 (fun b u ne e=>Heap.get?_push_of_some _ (hx b u ne e)) (Heap.get?_push_of_some _ htb) ⟨.inl hge,Heap.get?_push_of_some _ e2⟩ lf (Heap.get?_push_size _ rfl) (Nat.ne_of_lt hlt) ncP;have hfn:H h'.objs.size=none:=I.hok.fresh lf;have hcn:H c'=none:=I.hok.fresh hge;refine q h'.objs.size c' oc _ ctv _ tk _ Zac (by rw [Zag (Nat.ne_of_lt hlt),Zac]) ⟨vs,t,e3,e4⟩ hfn (fun b o n e=>?_) (.inr ⟨c',oc,?_,?_,⟨vs,t,e3,e4⟩,ncP⟩) J
   · rw [Zag (Zar e hfn),Zag (Zar e hcn),Zag n]
     exact e
   · rw [Zag (Ne.symm nf),Zag (Ne.symm ncP),Zac]
     rfl
   · rw [Zag (Nat.ne_of_lt hlt),Zac]
 · refine PySem.W.kla_makeFunctionHit (cv:=.ref c0) L.cl I.ok.glob hg L.code C (I.hok Pt _ h0) trivial ?_ hB fun ctv h' tk hk hsz=>?_
   · show (if ((lp.line:Int)==(lp.line:Int)&&(lp.col:Int)==(lp.col:Int))=true then some (Value.ref c0) else _)=_
     rw [if_pos (by simp)]
   have nf:h'.objs.size≠Pt:=Nat.ne_of_gt (Nat.lt_of_lt_of_le (lt h0) hsz);have lc:c0<s.heap.objs.size:=Heap.lt_size (I.hok c0 _ hc0).1;have ncf:c0≠h'.objs.size:=Nat.ne_of_lt (Nat.lt_of_lt_of_le lc hsz);have J:=I.grown (t':=tk) (more:=#[]) (h':=h'.push (PySem.W.kla_obj "<lambda>" (X.env.qual++"<lambda>") params body scope clos ((X.mg "__name__").getD .none) c0 ctv)) h0 (fun b u _ e=>Heap.get?_push_of_some _ (hk b u e)) (by rw [Array.append_empty];exact Heap.get?_push_of_some _ (hk _ _ (I.hok Pt _ h0))) ⟨.inr hc0,Heap.get?_push_of_some _ (hk _ _ (I.hok c0 _ hc0).1)⟩ hsz (Heap.get?_push_size _ rfl) ncf ncP;have hfn:H h'.objs.size=none:=I.hok.fresh hsz;refine q h'.objs.size c0 oc _ ctv _ tk _ Zac (by rw [Zag ncf,Zac]) hco hfn (fun b o n e=>?_) (.inr ⟨c0,oc,?_,?_,hco,ncP⟩) J
   · rw [Zag (Zar e hfn)]
     by_cases z:b=c0
     · rw [z,Zac];rw [z,hc0] at e;exact e
     · rw [Zag z,Zag n];exact e
   · rw [Zag (Ne.symm nf),Zag (Ne.symm ncP),Zac,Array.append_empty]
   · rw [Zag ncf,Zac]
theorem Ziz (L:LamIn X pn caps ixs scope clos c Pt)(hdef:defaultsOf params X.env=([],[]))(hbnd:∀ (pm:Value) (c':Addr) (ctv u:Value),bindArgs (PySem.W.kla_fn "<lambda>" (X.env.qual++"<lambda>") params body scope clos pm (.ref c') ctv) ⟨[u],[]⟩=pure [(pn,u)])
   (hbody:∀ (base':Heap) (f c':Addr) (A:Around) (outer:List Env) (s:Shared) (H:Hp),Room k (A.deeper (PySem.W.envX (X.env.qual++"<lambda>") scope s.heap.objs.size f (.ref c') clos))→PE (cxLam X.prog X.w X.K X.mg base' (pn::caps) (X.env.qual++"<lambda>") scope f (.ref c') clos A outer s H) body tb)
   (Fg:∀ base',FnAt X.prog X.w X.K X.mg base' g ps kg (spg base')) (hr:Room kg X.A) (hg:Gl X g) (he1:PE X e1 te)
   (hs:starEach [e1,.Lambda params body scope lp] X.env=[(false,eval e1 X.env),(false,eval (.Lambda params body scope lp) X.env)]:=by rfl) (hs2:starEach [.Lambda params body scope lp] X.env=[(false,eval (.Lambda params body scope lp) X.env)]:=by rfl) (hdb:(g==("__debug__":Str))=false:=by decide) :
   PE X (.Call (.Name g p) [e1,.Lambda params body scope lp] [] pos) (tCallLam X.prog X.w X.K X.mg (k+1) pn ixs Pt (X.env.qual++"<lambda>") lp spg te tb):=by
 intro pins s σ H Q I h;obtain ⟨ff,fdf,_,mf,kp,_⟩:=Fg X.base;refine wpAny_Call_Name_kw (Zdw I hg mf ?_ hdb);refine PySem.W.callWith_K (h₀:=X.base) I.ok.mod.kin kp ?_ (by rw [hs,hs2]) (by rw [hs2];rfl);rw [hs];show wpAny _ _ (spliced ((false,eval e1 X.env)::backTo pos [(false,eval (.Lambda params body scope lp) X.env)])) _ _ s;refine Calls.spliced_cons (thn (he1 pins s σ H _ I h) fun u s1 ⟨v,H1,I1,r1,hv,htb,q⟩=>?_);show wpAny _ _ (spliced ((false,eval (.Lambda params body scope lp) X.env)::backTo pos [])) _ _ s1;refine Calls.spliced_cons (make_lam L hdef I1 htb fun f c' oc pm ctv h' tk H2 e1 e2 e3 e4 e5 e6 J=>Calls.spliced_nil ⟨J.kIn,?_⟩);obtain ⟨f2,fd2,G,m2,_,b2⟩:=Fg (withCells h' X.base clos);have ef:f2=ff:=by have:=m2.symm.trans mf;cases this;rfl
 subst ef;have C:=cells_of L J hv;have FL:=fn_lam (P:=X.prog) (w:=X.w) (K:=X.K) (mg:=X.mg) (base:=withCells h' X.base clos) (k:=k) (f:=f) (c':=c') (oc:=oc) (name:="<lambda>") (params:=params) (body:=body) (pm:=pm) (ctv:=ctv) (tb:=tb) e3 L.sc C (hbody _ f c');have R:Ready X.prog X.w X.K X.mg (withCells h' X.base clos) (k+1) pn tb (ixs.map (valAt σ)) H1 H2 f:=⟨_,_,c',oc,e1,rfl,e2,e4,_,FL,Binds.all fun us hl=>by
   match us,hl with
   | [u],_=>exact hbnd pm c' ctv u⟩
 have hq:=q _ f H2 e5 e6 R;have e0:=J.env1 L;have hl:[u,Value.ref f].length=ps.length:=by have:=G.len _ _ _ _ hq;rw [← this];rfl
 refine wpAny_call (codeAny_mono (G.run X.A X.stack _ H2 ⟨[u,.ref f],[]⟩ [u,.ref f] [v,.ref f] Q E0 hr e0 ?_ (.cons r1 (.cons rfl .nil)) hq) fun r s' hq=>?_)
 · have:=b2 { s1 with heap:=h',toks:=tk } [u,.ref f] J.kIn (by simpa using hl)
   simpa using this
 · cases r with
   | error e=>exact hq.elim
   | ok fl =>
     cases fl with
     | ret u=>exact J.after hq
     | next=>exact False.elim hq
     | brk=>exact False.elim hq
     | cont=>exact False.elim hq
end
end L2
namespace L2
open PySem PySem.Spec PyProof.Rows
def TabIn (base:Heap)(mg:Str→Option Value)(t:Addr × Addr):Prop:=PySem.W.CodeHd base t.1 t.2∧base.BuiltinsAt mg t.2∧mainGlobals≠t.2
theorem Zko {P:Program}{w:World}{K:PySem.W.Frag}{mg mb:Str→Option Value}{k:Nat}{fa a:Addr}{fd:FuncData}{x:Str}{sp:Sp}{s₁:Shared}{vs:List Value}{ns:List Int}{tabs:List (Addr × Addr)}
   (KX:K.In s₁.heap) (hns:s₁.heap.Ns mainGlobals mg) (hb:s₁.heap.Ns builtinsNs mb) (hbb:∀ x:Str,x≠"__name__"→mb x=bootBuiltins x) (hlim:s₁.heap.NoLimit) (hg:s₁.gens=#[])
   (hbm:∃ bm ob,mg "__builtins__"=some (.ref bm)∧bm≠builtinsNs∧s₁.heap.get? bm=some ob∧ob.cls=.type "module"∧ob.dict=some builtinsNs∧ob.data=.plain)
   (hT:PySem.W.TabsAt tabs s₁.heap) (hKT:∀ t∈tabs,K.lookup t.2=none)
   (ha:s₁.heap.get? a=some { cls:=.type "list",data:=.seq vs.toArray }) (hi:IntsAre vs ns) (hl:ns.length≤sizeLine) (hr:Room k callerA)
   (F:∀ base:Heap,K.In base→base.Ns mainGlobals mg→(∀ t∈tabs,TabIn base mg t)→FnOk P w K mg base CX0 k fa fd [x] sp) (hbind:∀ (s:Shared) (u:Value),BindsTo s fd ⟨[u],[]⟩ [(x,u)])
   (hsp:∀ H:Hp,(∀ t∈tabs,H t.2=some (.tbl #[]))→SqL K H a (ns.map V.int)→sp [.ref a] H (fun v _=>v=.bl true) fun _ _ _=>False) :
   codeAny (model P w) callerA (.call (.ref fa) ⟨[.ref a],[]⟩) (fun r s'=>r=.ok (.ret (.bool true))∧OldK s₁.heap s'.heap∧s'.os=s₁.os∧AllBare s'.gens) s₁:=by
 have rv:=ZcA hi;have aT:a∉tabs.map (·.2):=fun z=>by
   obtain ⟨t,ht,e⟩:=List.mem_map.mp z;have:=(hT t ht).2;rw [e,ha] at this;cases this
 obtain ⟨H,hH⟩:∃ H:Hp,H=fun b=>if b∈tabs.map (·.2) then some (.tbl #[]) else if b=a∧K.lookup a=none then some (.frz { cls:=.type "list",data:=.seq vs.toArray } (.lst (ns.map V.int))) else none:=⟨_,rfl⟩
 have hTab:∀ t∈tabs,H t.2=some (.tbl #[]):=fun t ht=>by rw [hH];exact if_pos (List.mem_map.mpr ⟨t,ht,rfl⟩)
 have cases_:∀ b o,H b=some o→(b∈tabs.map (·.2)∧o=.tbl #[])∨(b=a∧K.lookup a=none∧o=.frz { cls:=.type "list",data:=.seq vs.toArray } (.lst (ns.map V.int))):=fun b o e=>by
   rw [hH] at e;dsimp only at e;by_cases z:b∈tabs.map (·.2)
   · rw [if_pos z] at e;cases e;exact .inl ⟨z,rfl⟩
   · rw [if_neg z] at e
     by_cases y:b=a∧K.lookup a=none
     · rw [if_pos y] at e;cases e;exact .inr ⟨y.1,y.2,rfl⟩
     · rw [if_neg y] at e;cases e
 have tabO:∀ b,b∈tabs.map (·.2)→s₁.heap.get? b=some (PySem.W.tabObj #[])∧K.lookup b=none:=fun b z=>by
   obtain ⟨t,ht,rfl⟩:=List.mem_map.mp z;exact ⟨(hT t ht).2,hKT t ht⟩
 have hok:HOk P w H s₁.heap:=fun b o e=>by
   rcases cases_ b o e with ⟨z,rfl⟩ | ⟨rfl,_,rfl⟩
   · exact (tabO b z).1
   · exact ⟨ha,by rw [List.length_map];exact hl,vs,_,rv,ha⟩
 have base_of:∀ {b:Addr} {o:Obj},s₁.heap.get? b=some o→H b=none→(hidT s₁.heap H).get? b=some o:=fun e n=>Zho e n
 have free_of:∀ {b:Addr} {o:Obj},s₁.heap.get? b=some o→o≠PySem.W.tabObj #[]→o≠{ cls:=.type "list",data:=.seq vs.toArray }→H b=none:=fun {b o} e n1 n2=>by
   cases q:H b with
   | none=>rfl
   | some u =>
     rcases cases_ b u q with ⟨z,_⟩ | ⟨z,_⟩
     · rw [(tabO b z).1] at e;cases e;exact absurd rfl n1
     · rw [z,ha] at e;cases e;exact absurd rfl n2
 have nsK:∀ {b:Addr} {m:Str→Option Value},s₁.heap.Ns b m→(hidT s₁.heap H).Ns b m:=fun {b m} ⟨o,es,ep,e,d,r⟩=>⟨o,es,ep,base_of e (free_of e (fun z=>by rw [z] at d;cases d) fun z=>by rw [z] at d;cases d),d,r⟩
 have hKb:K.In (hidT s₁.heap H):=fun b o e=>base_of (KX b o e) (by
   cases q:H b with
   | none=>rfl
   | some u =>
     rcases cases_ b u q with ⟨z,_⟩ | ⟨z,z2,_⟩
     · rw [(tabO b z).2] at e;cases e
     · rw [z,z2] at e;cases e)
 have hM:Mod K mg (hidT s₁.heap H):=⟨hKb,nsK hns,⟨mb,nsK hb,hbb⟩,let ⟨mc,h1,h2⟩:=hlim;⟨mc,nsK h1,h2⟩⟩
 have e0:Env0 P w K mg (hidT s₁.heap H) callerA [] s₁ H:=⟨rfl,hM,fun b o e=>Zjs e,Nat.le_of_eq (Zfg _ _),trivial,fun b hb=>absurd (show b∈([]:List Addr) from hb) (by simp),hok,.of_eq hg⟩
 have hTI:∀ t∈tabs,TabIn (hidT s₁.heap H) mg t:=fun t ht=>by
   obtain ⟨o,vs0,file,tf,flags,tg,inF,text,tt,c1,c2,c3,rest⟩:=(hT t ht).1;obtain ⟨bm,ob,b1,b2,b3,b4,b5,b6⟩:=hbm;obtain ⟨og,es,ep,g1,g2,_⟩:=hns;refine ⟨⟨o,vs0,file,tf,flags,tg,inF,text,tt,base_of c1 (free_of c1 (fun z=>by rw [z] at c2;cases c2) fun z=>by rw [z] at c3;cases c3),c2,c3,rest⟩,⟨bm,ob,b1,b2,fun z=>?_,fun z=>?_,base_of b3 (free_of b3 (fun z=>by rw [z] at b4;cases b4) fun z=>by rw [z] at b6;cases b6),b4,b5,b6⟩,fun z=>?_⟩
   · rw [z,g1] at b3;cases b3;rw [g2] at b6;cases b6
   · have:=(hT t ht).2;rw [← z,b3] at this;cases this;cases b4
   · have:=(hT t ht).2;rw [← z,g1] at this;cases this;cases g2
 have hSq:SqL K H a (ns.map V.int):=by
   cases hk:K.lookup a with
   | some o =>
     have e:=KX a o hk;rw [ha] at e;cases e;exact .inr ⟨_,vs.toArray,_,hk,rfl,rfl,rfl,by rw [List.size_toArray,hi.length];exact hl,by simpa using rv⟩
   | none =>
     refine .inl (.inr ⟨{ cls:=.type "list",data:=.seq vs.toArray },?_⟩);rw [hH];exact (if_neg aT).trans (if_pos ⟨rfl,hk⟩)
 refine codeAny_mono ((F _ hKb (nsK hns) hTI).run callerA [] s₁ H ⟨[.ref a],[]⟩ [.ref a] [.ref a] _ _ hr e0 (hbind s₁ (.ref a)) (.cons rfl .nil) (hsp H hTab hSq)) fun r s' h=>?_
 cases r with
 | error e=>exact h.elim
 | ok fl =>
   cases fl with
   | next=>exact False.elim h
   | brk=>exact False.elim h
   | cont=>exact False.elim h
   | ret u =>
     obtain ⟨v,H',os,bare,un,hok',r',q⟩:=h;have q':v=.bl true:=q;subst q';obtain rfl:u=Value.bool true:=r';refine ⟨rfl,⟨fun b o e=>?_,fun b o e=>un.there b o e (by simp)⟩,os,bare⟩;cases q:H b with
     | none=>exact .inl (un.keep b o e q (by intro z;exact absurd (show b∈([]:List Addr) from z) (by simp)) (by simp))
     | some u =>
       rcases cases_ b u q with ⟨z,rfl⟩ | ⟨z,z2,rfl⟩
       · obtain ⟨t,ht,rfl⟩:=List.mem_map.mp z
         rw [(hT t ht).2] at e;cases e;obtain ⟨more,hm⟩:=un.tbls _ _ q;have hP:=hok' _ _ hm;exact .inr (.inl ⟨((hT t ht).1.tab (hT t ht).2).isCodeTable,rfl,#[],more,rfl,hP⟩)
       · have e2:=(hok' _ _ (un.frzs b _ _ q)).1
         rw [z,ha] at e;cases e;exact .inl e2
end L2
namespace Att
open PySem PySem.Spec PyProof.Rows PySem.W
theorem ZfN:∀ {ns:List Int} {z:Int},z∈ns→Builtin.Int.intBits z≤WData.weightAll (ns.map WData.int)
 | n::r,_,.head _=>by
   show _≤WData.weight (.int n)+1+WData.weightAll (r.map WData.int);have:WData.weight (.int n)=Builtin.Int.intBits n:=by simp only [WData.weight,Builtin.Int.intBits]
   omega
 | n::r,z,.tail _ h=>by
   show _≤WData.weight (.int n)+1+WData.weightAll (r.map WData.int);have:=ZfN h;omega
theorem attach_bits {l:OpenLaw}{n:Nat}{q:Program}{loose:List Str}{XP:(Str→Option Value)→Heap→Prop}{YP:World→Heap→Prop}{d:DefRec}(hn:l.most=some n)(hdf:d.params.defaults=[])
   (call:∀ (w:World) (s₀ s₁:Shared) (mg mb:Str→Option Value) (fa a:Addr) (vs:List Value) (ns:List Int),Ground q loose [] XP w s₀ mg mb s₁.heap→YP w s₁.heap→mg d.name=some (.ref fa) →
     s₁.heap.get? a=some { cls:=.type "list",data:=.seq vs.toArray }→IntsAre vs ns→ns.length≤n→(∀ z∈ns,Builtin.Int.intBits z≤2^20)→s₁.gens=#[] →
     codeAny (model l.prog w) callerA (.call (.ref fa) ⟨[.ref a],[]⟩) (fun r s'=>r=.ok (.ret (.bool true))∧OldK s₁.heap s'.heap∧s'.os=s₁.os∧AllBare s'.gens) s₁) :
   WalkO q loose XP YP l.row.toRowW d [] (fun f vs=>PySem.call f vs):=by
 intro w s₀ s₁ mg mb G Y fa o pm cd doc dV kV ho hd hcd hD hmg hg args vals as hpre hlay hrd hwl hlo;obtain ⟨a,vs,ns,rfl,rfl,hobj,hints,hlen⟩:=Zke hn hpre hwl;have hbits:∀ z∈ns,Builtin.Int.intBits z≤2^20:=fun z hz=>by
   have h1:WData.layable (WData.list (ns.map WData.int))=true:=by have h2:([WData.list (ns.map WData.int)].all WData.layable)=true:=hlay;simpa using h2
   unfold WData.layable at h1;simp only [Bool.and_eq_true,decide_eq_true_eq] at h1;have h3:WData.weightAll (ns.map WData.int)≤2^20:=h1.2;exact Nat.le_trans (ZfN hz) h3
 refine enter_call (codeAny_mono (call w s₀ s₁ mg mb fa a vs ns G Y hmg hobj hints hlen hbits hg) fun r s' ⟨e,h2,h3,h4⟩=>?_);subst e;exact ⟨.inl ⟨.bool true,.bool true,[],rfl,fun _=>rfl,.bool true,Zkw l _,fun _=>⟨List.Pairwise.nil,fun _ hm=>(nomatch hm)⟩⟩,h2,h3,h4⟩
end Att
namespace L2
open PySem PySem.Spec PyProof.Rows
theorem walk_ofT {l:PySem.W.OpenLaw} {n k:Nat} {q:Program} {loose:List Str} {XP:(Str→Option Value)→Heap→Prop} {YP:World→Heap→Prop} {d:DefRec} {K:Params→PySem.W.Frag} {tabs:World→List (Addr × Addr)} {sp:World→Sp} {x:Str}
   (hn:l.most=some n) (hn2:n≤sizeLine) (hdf:d.params.defaults=[]) (hr:Room k callerA)
   (hY:∀ (w:World) (h:Heap),YP w h→(K w.params).In h)
   (hT:∀ (w:World) (s₀:Shared) (mg mb:Str→Option Value) (h:Heap),PySem.W.Ground q loose [] XP w s₀ mg mb h→(K w.params).In h→PySem.W.TabsAt (tabs w) h) (hKT:∀ w,∀ t∈tabs w,(K w.params).lookup t.2=none)
   (F:∀ (w:World) (mg:Str→Option Value) (fa:Addr) (h:Heap),(K w.params).In h→h.Ns mainGlobals mg→mg d.name=some (.ref fa) →
     ∃ fd:FuncData,(∀ (s:Shared) (u:Value),BindsTo s fd ⟨[u],[]⟩ [(x,u)]) ∧
       ∀ base:Heap,(K w.params).In base→base.Ns mainGlobals mg→(∀ t∈tabs w,TabIn base mg t)→FnOk l.prog w (K w.params) mg base CX0 k fa fd [x] (sp w))
   (hsp:∀ (w:World) (H:Hp) (a:Addr) (ns:List Int),ns.length≤n→(∀ z∈ns,Builtin.Int.intBits z≤2^20)→(∀ t∈tabs w,H t.2=some (.tbl #[]))→SqL (K w.params) H a (ns.map V.int)→sp w [.ref a] H (fun v _=>v=.bl true) fun _ _ _=>False) :
   PySem.W.WalkO q loose XP YP l.row.toRowW d [] (fun f vs=>PySem.call f vs):=by
 refine Att.attach_bits hn hdf fun w s₀ s₁ mg mb fa a vs ns G Y hmg hobj hints hlen hbits hg=>?_
 have KX:=hY w _ Y;obtain ⟨fd,hb,hF⟩:=F w mg fa _ KX G.T.g hmg;exact Zko KX G.T.g G.T.b G.T.builtins G.T.nolimit hg G.T.bmain (hT w s₀ mg mb _ G KX) (hKT w) hobj hints (Nat.le_trans hlen hn2) hr hF hb fun H h1 h2=>hsp w H a ns hlen hbits h1 h2
end L2
namespace L2
open PySem PySem.Spec PyProof.Rows
def DefAtC (K:PySem.W.Frag)(mg:Str→Option Value)(x:Str)(st:Stmt)(ps:List Str)(c:Addr):Prop:=∃ f fd,Fun K x x st f fd∧mg x=some (.ref f)∧Binds K fd ps []∧fd.code=.ref c
section
variable {P:Program}{w:World}{K:PySem.W.Frag}{mg:Str→Option Value}{base:Heap}
theorem FnAt.ofC {x:Str}{st:Stmt}{N ps:List Str}{k:Nat}{sp:Sp}{c:Addr}(d:DefAtC K mg x st ps c)(S:FnScope N ps (defScope st))(len:∀ vs H Q E,sp vs H Q E→vs.length=ps.length)
   (hbody:∀ (f:Addr) (A:Around) (outer:List Env) (s:Shared) (H:Hp) (vs:List V) (Q:VK) (E:XK),Room k (A.deeper (envOfC x (defScope st) s.heap.objs.size f (.ref c)))→sp vs H Q E →
     ∃ t,PSs (cxOf CX0 P w K mg base N x (defScope st) f (.ref c) A outer s H E).nox (defBody st) t∧t { nx:=fun _ H'=>Q .non H',rt:=Q } (start N vs) H):FnAt P w K mg base x ps (k+1) sp:=by
 obtain ⟨f,fd,F,m,b,hc⟩:=d;refine ⟨f,fd,?_,m,F.kp,b⟩;obtain ⟨oc,od,kV,doc,pm,an,cdv,ct,osl,rfl,lk,hcd⟩:=F.ex;have hc:cdv=.ref c:=hc;subst hc;refine fn_of lk hcd S len fun A outer s H vs Q E hr hsp=>?_
 obtain ⟨t,h,q⟩:=hbody f A outer s H vs Q E hr hsp;exact ⟨t,h.nox,q⟩
end
theorem Zhu {p:Str}{caps:List Str}{sc:Scope}(h1:sc.kind=.function)(h2:sc.isCoroutine=false)(h3:sc.isGenerator=false)(h4:(p::caps).Nodup)(h5:sc.names.lookup p=some .local)(h6:∀ x∈caps,sc.names.lookup x=some .free)(h7:∀ q∈sc.names,q.2=.free→q.1∈caps)(h8:∀ q∈sc.names,q.2≠.cell):LamScope p caps sc :=
 ⟨h1,h2,h3,h4,h5,h6,fun x hx=>h7 _ (PySem.mem_of_lookup hx) rfl,h8⟩
def AllIn (cells:List (Str × Addr)):List (Str × Addr)→Prop
 | []=>True
 | p::r=>cells.lookup p.1=some p.2∧AllIn cells r
theorem AllIn.mem {cells:List (Str × Addr)}:∀ {l:List (Str × Addr)},AllIn cells l→∀ p∈l,cells.lookup p.1=some p.2
 | _::_,h,_,.head _=>h.1
 | _::_,h,_,.tail _ hp=>h.2.mem _ hp
def IxOk (N:List Str)(sc:Scope)(clos:List (Str × Addr)):List Str→List Nat→Prop
 | [],[]=>True
 | y::cs,j::js=>(N[j]?=some y∧sc.names.lookup y=some .cell∧∃ a,clos.lookup y=some a)∧IxOk N sc clos cs js
 | _,_=>False
theorem IxOk.get {N:List Str}{sc:Scope}{clos:List (Str × Addr)}:∀ {cs:List Str} {js:List Nat},IxOk N sc clos cs js→js.length=cs.length∧∀ (i:Nat) (y:Str),cs[i]?=some y→∃ (j:Nat) (a:Addr),js[i]?=some j∧N[j]?=some y∧sc.names.lookup y=some .cell∧clos.lookup y=some a
 | [],[],_=>⟨rfl,fun i y h=>by cases h⟩
 | [],_::_,h=>h.elim
 | _::_,[],h=>h.elim
 | y::cs,j::js,⟨⟨h1,h2,a,h3⟩,h4⟩=>by
   obtain ⟨l,g⟩:=IxOk.get h4;refine ⟨by rw [List.length_cons,List.length_cons,l],fun i z hz=>?_⟩;cases i with
   | zero=>cases (show y=z from Option.some.inj hz);exact ⟨j,a,rfl,h1,h2,h3⟩
   | succ i=>exact g i z hz
section
variable {P:Program}{w:World}{K:PySem.W.Frag}{mg:Str→Option Value}{base:Heap}{N:List Str}{x pn:Str}{sc scope:Scope}{f c Pt:Addr}{A:Around}{outer:List Env}{s:Shared}{H:Hp}{E:XK}{caps:List Str}{ixs:List Nat}{clos:List (Str × Addr)}
theorem lamIn_mk (T:TabIn base mg (c,Pt))(S:LamScope pn caps scope)(cl:closureFor scope (envOfC x sc s.heap.objs.size f (.ref c))=pure clos)(al:AllIn (envOfC x sc s.heap.objs.size f (.ref c)).cells clos)(ix:IxOk N sc clos caps ixs) :
   LamIn (cxOf CX0 P w K mg base N x sc f (.ref c) A outer s H E).nox pn caps ixs scope clos c Pt :=
 ⟨S,rfl,T.1,cl,fun y a h=>al.mem _ (PySem.mem_of_lookup h),ix.get.2,ix.get.1,fun _=>rfl,T.2.1,T.2.2⟩
end
end L2
namespace L2
open PySem PySem.Spec PyProof.Rows
def tabAt (K:PySem.W.Frag)(x:Str):Addr × Addr:=(PySem.W.tabIn K x).getD (0,0)
def tabsOk (K:PySem.W.Frag)(xs:List Str):Bool:=xs.all (fun x=>(PySem.W.tabIn K x).isSome&&(K.lookup (tabAt K x).2).isNone)&&decide ((xs.map fun x=>(tabAt K x).2).Nodup)
def recsOk (q:Program)(xs:List Str):Bool:=xs.all fun x=>((recsOf q).find? fun e=>e.name==x).isSome
section
variable {K:PySem.W.Frag}{mg:Str→Option Value}
theorem ZdB {xs:List Str}(h:tabsOk K xs=true){x:Str}(hx:x∈xs):PySem.W.tabIn K x=some (tabAt K x)∧K.lookup (tabAt K x).2=none:=by unfold tabsOk at h;rw [Bool.and_eq_true] at h;have:=List.all_eq_true.mp h.1 x hx;rw [Bool.and_eq_true] at this;refine ⟨?_,by simpa using this.2⟩;obtain ⟨t,ht⟩:=Option.isSome_iff_exists.mp this.1;unfold tabAt;rw [ht];rfl
theorem ZfU {xs:List Str}(h:tabsOk K xs=true):(xs.map fun x=>(tabAt K x).2).Nodup:=by unfold tabsOk at h;rw [Bool.and_eq_true] at h;exact of_decide_eq_true h.2
theorem DefAt.toC {h:Heap}{x:Str}{st:Stmt}{ps:List Str}{t:Addr × Addr}(X:K.In h)(G:h.Ns mainGlobals mg)(d:DefAt K mg x st ps)(ht:PySem.W.tabIn K x=some t):DefAtC K mg x st ps t.1:=by obtain ⟨f,fd,F,m,b⟩:=d;refine ⟨f,fd,F,m,b,?_⟩;obtain ⟨oc,od,kV,doc,pm,an,cdv,ct,osl,rfl,lk,hcd⟩:=F.ex;exact PySem.W.law_code (c:=t.1) (P:=t.2) X G ht m (X _ _ lk) rfl
end
theorem walk_tabs {l:PySem.W.OpenLaw} {n k:Nat} {q:Program} {loose:List Str} {XP:(Str→Option Value)→Heap→Prop} {YP:World→Heap→Prop} {d:DefRec} {K:Params→PySem.W.Frag} {sp:World→Sp} {x:Str} (xs:List Str)
   (hn:l.most=some n) (hn2:n≤sizeLine) (hdf:d.params.defaults=[]) (hr:Room k callerA)
   (hY:∀ (w:World) (h:Heap),YP w h→(K w.params).In h) (ok:∀ P,tabsOk (K P) xs=true) (rok:recsOk q xs=true)
   (F:∀ (w:World) (mg:Str→Option Value) (fa:Addr) (h:Heap),(K w.params).In h→h.Ns mainGlobals mg→mg d.name=some (.ref fa) →
     ∃ fd:FuncData,(∀ (s:Shared) (u:Value),BindsTo s fd ⟨[u],[]⟩ [(x,u)]) ∧
       ∀ base:Heap,(K w.params).In base→base.Ns mainGlobals mg→(∀ y∈xs,TabIn base mg (tabAt (K w.params) y))→FnOk l.prog w (K w.params) mg base CX0 k fa fd [x] (sp w))
   (hsp:∀ (w:World) (H:Hp) (a:Addr) (ns:List Int),ns.length≤n→(∀ z∈ns,Builtin.Int.intBits z≤2^20)→(∀ y∈xs,H (tabAt (K w.params) y).2=some (.tbl #[]))→(xs.map fun x=>(tabAt (K w.params) x).2).Nodup→SqL (K w.params) H a (ns.map V.int)→sp w [.ref a] H (fun v _=>v=.bl true) fun _ _ _=>False) :
   PySem.W.WalkO q loose XP YP l.row.toRowW d [] (fun f vs=>PySem.call f vs):=by
 refine walk_ofT (x:=x) (tabs:=fun w=>xs.map (tabAt (K w.params))) hn hn2 hdf hr hY (fun w s₀ mg mb h G KX=>?_) (fun w t ht=>?_) (fun w mg fa h KX G m=>?_) fun w H a ns h1 h2 h3 h4=>hsp w H a ns h1 h2 (fun y hy=>h3 _ (List.mem_map.mpr ⟨y,hy,rfl⟩)) (ZfU (ok _)) h4
 · intro t ht
   obtain ⟨y,hy,rfl⟩:=List.mem_map.mp ht;obtain ⟨r,hr⟩:=Option.isSome_iff_exists.mp (List.all_eq_true.mp rok y hy);exact PySem.W.tab_of G.T KX hr (ZdB (ok _) hy).1
 · obtain ⟨y,hy,rfl⟩:=List.mem_map.mp ht
   exact (ZdB (ok _) hy).2
 · obtain ⟨fd,hb,hF⟩:=F w mg fa h KX G m
   exact ⟨fd,hb,fun base h1 h2 h3=>hF base h1 h2 fun y hy=>h3 _ (List.mem_map.mpr ⟨y,hy,rfl⟩)⟩
end L2
namespace L2
open PySem PySem.Spec PyProof.Rows
def noT (H:Hp):Hp:=fun b=>match H b with
 | some (.tbl _)=>none
 | o=>o
section
variable {H H' H2:Hp}{b l Pt:Addr}{o o':HO}{q:Str}{lp:Pos}
theorem Zaq (e:H b=some o)(n:∀ ts,o≠.tbl ts):noT H b=some o:=by unfold noT;rw [e];cases o<;>first | rfl | exact absurd rfl (n _)
theorem Zah (e:noT H b=some o):H b=some o∧∀ ts,o≠.tbl ts:=by
 unfold noT at e;split at e
 · cases e
 · rename_i h
   refine ⟨e,fun ts z=>?_⟩;rw [z] at e;exact h _ e
theorem Zb2 (e:H b=none):noT H b=none:=by unfold noT;rw [e]
theorem noT_sub:Same (noT H) H:=fun _ _ e=>(Zah e).1
theorem Same.noT (s:Same H H'):Same (noT H) (noT H'):=fun b o e=>Zaq (s _ _ (Zah e).1) (Zah e).2
theorem noT_upd (n:∀ ts,o≠.tbl ts)(hb:H b=none∨∃ o',noT H b=some o'):noT (upd H b o)=upd (noT H) b o:=by
 funext c;by_cases z:c=b
 · rw [z,Zac]
   exact Zaq Zac n
 · rw [Zag z]
   unfold L2.noT;rw [Zag z]
theorem nl (xs:List V)(ts:Array Value):HO.lst xs≠.tbl ts:=fun z=>by cases z
theorem nt (xs:List V)(ts:Array Value):HO.tup xs≠.tbl ts:=fun z=>by cases z
theorem ni (C dx:Addr)(fs:List (Str × V))(ts:Array Value):HO.ins C dx fs≠.tbl ts:=fun z=>by cases z
theorem nd (kvs:List (Key × V))(ts:Array Value):HO.dK kvs≠.tbl ts:=fun z=>by cases z
theorem Tb.ne (h:Tb H Pt q lp)(e:H b=some o)(n:∀ ts,o≠.tbl ts):b≠Pt:=fun z=>by
 rcases h with h | ⟨_,_,h,_⟩<;>(rw [← z,e] at h;exact n _ (Option.some.inj h))
theorem Tb.sameT {P1 P2:Addr}{q1 q2:Str}{l1 l2:Pos}(h:Tb H P2 q2 l2)(s:SameT P1 H H')(t:Tb H P1 q1 l1)(n:P2≠P1):Tb H' P2 q2 l2:=by
 rcases h with h | ⟨c,oc,h1,h2,h3⟩
 · exact .inl (s _ _ n h)
 · exact .inr ⟨c,oc,s _ _ n h1,s _ _ (Tb.ne t h2 fun _ z=>by cases z) h2,h3⟩
def Soft:HO→Prop
 | .tbl _=>False
 | .frz _ _=>False
 | _=>True
theorem Tb.put (h:Tb H Pt q lp)(e:H l=some o)(n:Soft o):Tb (upd H l o') Pt q lp:=by
 have ne:l≠Pt:=Tb.ne h e fun ts z=>by rw [z] at n;exact n
 rcases h with h | ⟨c,oc,h1,h2,h3⟩
 · exact .inl (by rw [Zag (Ne.symm ne)];exact h)
 · refine .inr ⟨c,oc,by rw [Zag (Ne.symm ne)];exact h1,?_,h3⟩
   have:c≠l:=fun z=>by rw [z,e] at h2;cases h2;exact n
   rw [Zag this];exact h2
end
abbrev Tabs:=List (Addr × Str × Pos)
def Tbs (ts:Tabs)(H:Hp):Prop:=∀ t∈ts,Tb H t.1 t.2.1 t.2.2
def TabsUq (ts:Tabs):Prop:=∀ t∈ts,∀ u∈ts,t.1=u.1→t=u
structure Nx (ts:Tabs)(H H':Hp):Prop where
 same:Same (noT H) (noT H')
 tb:Tbs ts H'
structure Nb (ts:Tabs)(m:Addr)(H H':Hp):Prop where
 same:∀ b o,b≠m→noT H b=some o→noT H' b=some o
 tb:Tbs ts H'
section
variable {ts:Tabs}{H H' H2:Hp}{b l m:Addr}{o o':HO}
theorem Tbs.same (h:Tbs ts H)(s:Same H H'):Tbs ts H':=fun t ht=>Tb.same (h t ht) s
theorem Tbs.nx (h:Tbs ts H)(s:Same H H'):Nx ts H H':=⟨s.noT,h.same s⟩
theorem Tbs.put (h:Tbs ts H)(e:H l=some o)(n:Soft o):Tbs ts (upd H l o'):=fun t ht=>Tb.put (h t ht) e n
theorem Nx.trans (a:Nx ts H H')(b:Nx ts H' H2):Nx ts H H2:=⟨a.same.trans b.same,b.tb⟩
theorem Nx.at (a:Nx ts H H')(e:noT H b=some o):noT H' b=some o:=a.same _ _ e
theorem Nx.free (a:Nx ts H H')(e:noT H' b=none):noT H b=none:=a.same.free e
theorem Nx.nb (a:Nx ts H H'):Nb ts m H H':=⟨fun b o _ e=>a.same _ _ e,a.tb⟩
theorem Nb.trans (a:Nb ts m H H')(b:Nb ts m H' H2):Nb ts m H H2:=⟨fun c o n e=>b.same _ _ n (a.same _ _ n e),b.tb⟩
theorem Nx.new (h:Tbs ts H)(e:H l=none):Nx ts H (upd H l o'):=h.nx (Same.new e)
theorem Nx.put (a:Nx ts H H')(e:noT H l=none)(e':H' l=some o)(n:Soft o):Nx ts H (upd H' l o'):=by
 refine ⟨fun b x z=>?_,a.tb.put e' n⟩;have z2:=Zah (a.same _ _ z);have:b≠l:=fun y=>by rw [y,e] at z;cases z
 exact Zaq (by rw [Zag this];exact z2.1) z2.2
theorem Nb.put (a:Nb ts m H H')(e':H' m=some o)(n:Soft o):Nb ts m H (upd H' m o'):=by refine ⟨fun b x y z=>?_,a.tb.put e' n⟩;have z2:=Zah (a.same _ _ y z);exact Zaq (by rw [Zag y];exact z2.1) z2.2
theorem Nb.of_new (a:Nb ts m H H')(e:noT H m=none):Nx ts H H':=⟨fun b o z=>a.same _ _ (fun y=>by rw [y,e] at z;cases z) z,a.tb⟩
theorem Tbs.grow {P1:Addr}{q1:Str}{l1:Pos}(u:TabsUq ts)(h:Tbs ts H)(hm:(P1,q1,l1)∈ts)(s:SameT P1 H H')(t':Tb H' P1 q1 l1):Nx ts H H':=by
 have t:=h _ hm;refine ⟨fun b o e=>?_,fun x hx=>?_⟩
 · obtain ⟨e1,e2⟩:=Zah e
   exact Zaq (s _ _ (Tb.ne t e1 e2) e1) e2
 · by_cases z:x.1=P1
   · have:=u x hx _ hm z
     rw [this];exact t'
   · exact Tb.sameT (h x hx) s t z
theorem SqL.noT {K:PySem.W.Frag}{a:Addr}{xs:List V}(h:SqL K (noT H) a xs):SqL K H a xs:=noT_sub.seq h
end
section
variable {P:Program}{w:World}{K:PySem.W.Frag}{mg:Str→Option Value}{base:Heap}{x m:Str}{C:Addr}{ps:List Str}{j k:Nat}{sp sp':Sp}
theorem FnAt.imp (F:FnAt P w K mg base x ps k sp)(h:∀ vs H Q E,sp' vs H Q E→sp vs H Q E):FnAt P w K mg base x ps k sp':=by obtain ⟨f,fd,a,b⟩:=F;exact ⟨f,fd,a.imp h,b⟩
end
end L2
namespace L2
open PySem PySem.Spec PyProof.Rows Srt SG
theorem Zfn {D:Ends}{σ:St}{H:Hp}:tNever D σ H=False:=rfl
theorem hu1 {A:Around}{k:Nat}(hr:Room k A):A.units+1<cLine:=Nat.lt_of_le_of_lt (by omega) (hu64 hr)
section
variable {td ty tx tv:TE}{σ:St}{H:Hp}{Q:VK}{D:Ends}
theorem ZgT:tDGet td ty σ H Q=td σ H fun x H1=>ty σ H1 fun y H2=>∃ a v,x=.ref a∧DGet H2 a y (some v)∧Q v H2:=rfl
theorem Zfq:tDGet2 td ty tx σ H Q=td σ H fun x H1=>∃ a,x=.ref a∧IsD H1 a∧ty σ H1 fun y H2=>tx σ H2 fun z H3=>∃ o,DGet H3 a y o∧Q (o.getD z) H3:=rfl
theorem ZgS:sDPut td ty tv D σ H=tv σ H fun v H1=>td σ H1 fun x H2=>ty σ H2 fun y H3=>∃ a H4,x=.ref a∧DPut H3 a y v H4∧D.nx σ H4:=rfl
end
theorem ZdU:∀ {vs:List Value} {ns:List Int},vs.length=ns.length→(∀ (j:Nat) (v:Value),vs[j]?=some v→∃ i t,ns[j]?=some i∧v=Value.int i t)→IntsAre vs ns
 | [],[],_,_=>.nil
 | [],_::_,h,_=>by cases h
 | _::_,[],h,_=>by cases h
 | v::vs,n::ns,h,g=>by
   obtain ⟨i,t,e,rfl⟩:=g 0 v rfl;cases (show n=i from Option.some.inj e);exact .cons n t (ZdU (Nat.succ.inj h) fun j v e=>g (j+1) v e)
section
variable {X:Cx}{x:Str}{p pos:Pos}
theorem Zj2 {C:Addr}{ps:List Str}{k:Nat}{sp:Sp}(F:MakeAt X.prog X.w X.K X.mg X.base x C ps k sp)(hr:Room (k+1) X.A)(hg:Gl X x)(hdb:(x==("__debug__":Str))=false:=by decide):PE X (.Call (.Name x p) [] [] pos) (tMake C sp [] E0 tNil):=by obtain ⟨hm,f,fd,M,F,b⟩:=F;exact pe_make0 M F hr hg hm b .nil pass0 hdb
end
section
variable {X:Cx}
def rSortD:List V→Hp→VK→Prop:=fun xs H Q=>∃ (a:Addr) (kvs:List (Key × V)) (ns:List Int),xs=[.ref a]∧H a=some (.dK kvs)∧kvs.map (·.1)=ns.map Sum.inl∧∀ (l:Addr) (ns':List Int),H l=none→ns'.Perm ns→ns'.Pairwise (·≤·)→Q (.ref l) (upd H l (.lst (ns'.map V.int)))
theorem ZfE {xs:List V}{H:Hp}{Q:VK}:rSortD xs H Q=∃ (a:Addr) (kvs:List (Key × V)) (ns:List Int),xs=[.ref a]∧H a=some (.dK kvs)∧kvs.map (·.1)=ns.map Sum.inl∧∀ (l:Addr) (ns':List Int),H l=none→ns'.Perm ns→ns'.Pairwise (·≤·)→Q (.ref l) (upd H l (.lst (ns'.map V.int))):=rfl
theorem Zca (hc:X.calm=true:=by rfl):CallR X (.builtin "sorted") rSortD:=by
 intro pins s σ H xs us Q I r h;obtain ⟨a,kvs,ns,rfl,ha,hk,q⟩:=h;obtain ⟨u,rfl,ru⟩:=r.one;cases (show u=Value.ref a from ru);obtain ⟨hz,lo,vs,kv,o,es,ep,g1,g2,g3,g4,g5,g6⟩:=dk_of I.hok ha;have lk:kvs.length=vs.length:=kv.length;have ln:ns.length=kvs.length:=by have:=congrArg List.length hk;rw [List.length_map,List.length_map] at this;exact this.symm
 refine Calls.call_function_entry kind_sorted plain_sorted entry_sorted (args_sorted1 _) ?_;unfold Builtin.«sorted»;refine wpAny_bind (m:=checkCount "sorted" 1 1 _) (wpAny_pure ?_);refine wpAny_bind (PySem.W.kdu_collect (A:=X.A.in1) (PySem.W.kdl_dict (knd:=mixKind X.prog X.w) (kvs:=vs) (ep:=ep) lo) (show X.A.in1.handled=none from I.ok.hd hc) ⟨o,es,g1,g2,g3,g4,g5,g6⟩ (by omega) fun h1 tk acc old hacc=>?_);have hi:IntsAre acc.toList ns:=by
   refine ZdU (by rw [Array.length_toList,hacc.1];omega) fun j v hv=>?_
   obtain ⟨k,y,e1,e2⟩:=hacc.2 j v (by rw [← Array.getElem?_toList];exact hv);have ek:(vs.map (·.1))[j]?=some k:=by rw [List.getElem?_map,e1];rfl
   rw [← kv.keys,hk,List.getElem?_map] at ek;cases en:ns[j]? with
   | none=>rw [en] at ek;cases ek
   | some i =>
     rw [en] at ek;cases (show Sum.inl i=k from Option.some.inj ek);rw [Zh8] at e2;rcases ZaE e2 with ⟨i',t,z1,z2⟩ | ⟨x,t,z1,z2⟩
     · cases z1
       exact ⟨i,t,rfl,z2⟩
     · cases z1
 have lv:acc.toList.length≤sizeLine:=by rw [IntsAre.length hi];omega
 refine wpAny_bind (wpAny_newList ?_ (by simpa using lv));have oL:(h1.push (seqObj "list" acc.toList.toArray 0)).get? h1.objs.size=some (seqObj "list" acc.toList.toArray 0):=Heap.get?_push_size _ rfl;show wpAny _ _ _ _ _ { s with heap:=h1.push (seqObj "list" acc.toList.toArray 0),toks:=tk };refine wpAny_bind (wpAny_holding (wpAny_call_entry slot_list_sort ⟨_,oL,rfl⟩ entry_list_sort (Srt.sort_ints oL hi lv fun out ns' g1 g2 g3=>⟨_,rfl,?_⟩) (args_list_sort _)));obtain ⟨e,he⟩:=sortedHeap_at (out:=out) oL;have I1:Inv X pins σ H { s with heap:=h1,toks:=tk }:=I.kept old;have lo2:(ns'.map V.int).length≤sizeLine:=by rw [List.length_map,g2.length_eq];omega
 refine wpAny_pure ⟨_,rfl,.ref h1.objs.size,_,I1.laid (t':=tk) (o:=.lst (ns'.map V.int)) (fun b u e2=>?_) (Nat.le_refl _) ⟨lo2,out.toList,e,ZcA g1,by rw [Array.toArray_toList];exact he⟩,rfl,q _ ns' (I1.hok.fresh (Nat.le_refl _)) g2 g3⟩;have lb:b<h1.objs.size:=Heap.lt_size e2;rw [sortedHeap_old (Nat.ne_of_lt lb) (by rw [size_push'];exact Nat.lt_succ_of_lt lb)];exact Heap.get?_push_of_some _ e2
end
end L2
namespace L2
open PySem PySem.Spec PyProof.Rows
section
variable {X:Cx}{pins:List (Addr × Obj)}{σ:St}{H H':Hp}{s:Shared}{p:Addr}{xs:List V}
end
section
variable {X:Cx}{P:Program}{w:World}{K:PySem.W.Frag}{mg:Str→Option Value}{base:Heap}{o e:Expr}{es:List Expr}{m:Str}{ta:TE}{t:TA}{apos pos:Pos}
end
end L2
namespace BM
structure Ent where
 key:Nat
 ps:List Nat
 loc:Nat
def kys (es:List Ent):List Nat:=es.map (·.key)
def tot:List Ent→Nat
 | []=>0
 | e::r=>e.ps.length+tot r
def ahs:Nat→List Ent→List Nat
 | _,[]=>[]
 | a,e::r=>a::ahs (a+e.ps.length) r
def flat:List Ent→List Nat
 | []=>[]
 | e::r=>e.ps.map (fun p=>256*e.key+p)++flat r
structure EsOk (es:List Ent):Prop where
 up:Up 0 (kys es)
 klt:∀ e∈es,e.key<256
 pup:∀ e∈es,Up 0 e.ps
 plt:∀ e∈es,∀ p∈e.ps,p<256
 ne:∀ e∈es,e.ps≠[]
def loE (k:Nat)(es:List Ent):List Ent:=es.filter fun e=>decide (e.key<k)
def miE (k:Nat)(es:List Ent):List Ent:=es.filter fun e=>decide (e.key=k)
def hiE (k:Nat)(es:List Ent):List Ent:=es.filter fun e=>decide (k<e.key)
def plcE (k:Nat)(es:List Ent):List Nat:=match miE k es with
 | []=>[]
 | e::_=>e.ps
def keepE (k:Nat)(ps:List Nat)(a:Nat)(es:List Ent):List Ent:=loE k es++(if ps=[] then [] else [⟨k,ps,a⟩])++hiE k es
theorem above {k:Nat}{es:List Ent}(h:∀ e∈es,k<e.key):loE k es=[]∧miE k es=[]∧hiE k es=es:=by
 refine ⟨List.filter_eq_nil_iff.mpr fun e he=>?_,List.filter_eq_nil_iff.mpr fun e he=>?_,List.filter_eq_self.mpr fun e he=>?_⟩
 · have:=h e he;simp;omega
 · have:=h e he;simp;omega
 · exact decide_eq_true (h e he)
theorem ZiM {a:Nat}{es:List Ent}(h:Up a (kys es)):∀ e∈es,a≤e.key:=fun e he=>h.of_lt _ (List.mem_map.mpr ⟨e,he,rfl⟩)
theorem split:∀ {a:Nat} {es:List Ent} (k:Nat),Up a (kys es)→es=loE k es++miE k es++hiE k es
 | _,[],_,_=>rfl
 | a,e::r,k,h=>by
   obtain ⟨h1,h2⟩:a≤e.key∧Up (e.key+1) (kys r):=h;have ab:=ZiM h2;rcases Nat.lt_trichotomy e.key k with c | c | c
   · have ih:=split k h2
     have e1:loE k (e::r)=e::loE k r:=List.filter_cons_of_pos (decide_eq_true c);have e2:miE k (e::r)=miE k r:=List.filter_cons_of_neg (by simp;omega);have e3:hiE k (e::r)=hiE k r:=List.filter_cons_of_neg (by simp;omega);rw [e1,e2,e3,List.cons_append,List.cons_append,← ih]
   · obtain ⟨a1,a2,a3⟩:=above (k:=k) (es:=r) fun x hx=>by have:=ab x hx;omega
     have e1:loE k (e::r)=loE k r:=List.filter_cons_of_neg (by simp;omega);have e2:miE k (e::r)=e::miE k r:=List.filter_cons_of_pos (decide_eq_true c);have e3:hiE k (e::r)=hiE k r:=List.filter_cons_of_neg (by simp;omega);rw [e1,e2,e3,a1,a2,a3];rfl
   · obtain ⟨a1,a2,a3⟩:=above (k:=k) (es:=r) fun x hx=>by have:=ab x hx;omega
     have e1:loE k (e::r)=loE k r:=List.filter_cons_of_neg (by simp;omega);have e2:miE k (e::r)=miE k r:=List.filter_cons_of_neg (by simp;omega);have e3:hiE k (e::r)=e::hiE k r:=List.filter_cons_of_pos (decide_eq_true c);rw [e1,e2,e3,a1,a2,a3];rfl
theorem Zcu:∀ {a:Nat} {es:List Ent} (k:Nat),Up a (kys es)→miE k es=[]∨∃ e,miE k es=[e]∧e.key=k∧e∈es
 | _,[],_,_=>.inl rfl
 | a,e::r,k,h=>by
   obtain ⟨h1,h2⟩:a≤e.key∧Up (e.key+1) (kys r):=h;by_cases c:e.key=k
   · obtain ⟨a1,a2,a3⟩:=above (k:=k) (es:=r) fun x hx=>by have:=ZiM h2 x hx;omega
     have e2:miE k (e::r)=e::miE k r:=List.filter_cons_of_pos (decide_eq_true c);exact .inr ⟨e,by rw [e2,a2],c,.head _⟩
   · have e2:miE k (e::r)=miE k r:=List.filter_cons_of_neg (by simp;omega)
     rw [e2];rcases Zcu k h2 with z | ⟨x,z1,z2,z3⟩
     · exact .inl z
     · exact .inr ⟨x,z1,z2,.tail _ z3⟩
theorem ZfZ {k:Nat}{es:List Ent}{e:Ent}(h:e∈loE k es):e∈es∧e.key<k:=⟨(List.mem_filter.mp h).1,of_decide_eq_true (List.mem_filter.mp h).2⟩
theorem Zgh {k:Nat}{es:List Ent}{e:Ent}(h:e∈hiE k es):e∈es∧k<e.key:=⟨(List.mem_filter.mp h).1,of_decide_eq_true (List.mem_filter.mp h).2⟩
theorem Up.append {b:Nat}:∀ {a:Nat} {xs ys:List Nat},Up a xs→(∀ x∈xs,x<b)→Up b ys→a≤b→Up a (xs++ys)
 | _,[],_,_,_,h,l=>h.mono l
 | a,x::xs,ys,h,hb,h2,_=>by
   obtain ⟨h1,h3⟩:a≤x∧Up (x+1) xs:=h;exact ⟨h1,h3.append (fun y hy=>hb y (.tail _ hy)) h2 (hb x (.head _))⟩
theorem Ze5 (p:Nat→Bool)(es:List Ent):kys (es.filter fun e=>p e.key)=(kys es).filter p:=by unfold kys;rw [List.filter_map];rfl
theorem ZaT:∀ x y:List Ent,tot (x++y)=tot x+tot y
 | [],y=>by show tot y=0+tot y;omega
 | e::r,y=>by
   show e.ps.length+tot (r++y)=e.ps.length+tot r+tot y;rw [ZaT r y];omega
theorem ZbF:∀ (a:Nat) (x y:List Ent),ahs a (x++y)=ahs a x++ahs (a+tot x) y
 | _,[],_=>rfl
 | a,e::r,y=>by
   show a::ahs (a+e.ps.length) (r++y)=a::(ahs (a+e.ps.length) r++ahs (a+(e.ps.length+tot r)) y);rw [ZbF,Nat.add_assoc]
theorem ZbB:∀ (a:Nat) (es:List Ent),(ahs a es).length=es.length
 | _,[]=>rfl
 | a,e::r=>congrArg (·+1) (ZbB (a+e.ps.length) r)
theorem ZiT:∀ (a:Nat) (es:List Ent) (i:Nat),i<es.length→(ahs a es)[i]?=some (a+tot (es.take i))
 | _,[],_,h=>by cases h
 | a,e::r,0,_=>rfl
 | a,e::r,i+1,h=>by
   show (ahs (a+e.ps.length) r)[i]?=some (a+(e.ps.length+tot (r.take i)));rw [ZiT (a+e.ps.length) r i (Nat.lt_of_succ_lt_succ h),Nat.add_assoc]
theorem ZfH (m:Int):∀ (a b:Nat) (es:List Ent),(b:Int)=a+m→(ahs a es).map (fun (x:Nat)=>(x:Int)+m)=(ahs b es).map (fun (x:Nat)=>(x:Int))
 | _,_,[],_=>rfl
 | a,b,e::r,h=>by
   show ((a:Int)+m)::(ahs (a+e.ps.length) r).map _=(b:Int)::(ahs (b+e.ps.length) r).map _;rw [ZfH m (a+e.ps.length) (b+e.ps.length) r (by omega),h]
theorem Zbw:∀ es:List Ent,(flat es).length=tot es
 | []=>rfl
 | e::r=>by
   show (e.ps.map _++flat r).length=e.ps.length+tot r;rw [List.length_append,List.length_map,Zbw r]
theorem Zdc {n:Nat}:∀ {es:List Ent},(∀ e∈es,∀ p∈e.ps,p<256)→(n∈flat es↔∃ e∈es,e.key=n/256∧n%256∈e.ps)
 | [],_=>by
   constructor
   · intro h;cases h
   · rintro ⟨_,h,_⟩;cases h
 | e :: r,h=>by
   show n∈e.ps.map _++flat r↔_;rw [List.mem_append,Zdc (fun x hx=>h x (.tail _ hx))];constructor
   · rintro (z | ⟨x,x1,x2⟩)
     · obtain ⟨p,hp,rfl⟩:=List.mem_map.mp z
       have:=h e (.head _) p hp;exact ⟨e,.head _,by omega,by rw [show (256*e.key+p)%256=p by omega];exact hp⟩
     · exact ⟨x,.tail _ x1,x2⟩
   · rintro ⟨x,x1,x2,x3⟩
     rcases List.mem_cons.mp x1 with rfl | x1
     · exact .inl (List.mem_map.mpr ⟨_,x3,by omega⟩)
     · exact .inr ⟨x,x1,x2,x3⟩
theorem ZbV {n:Nat}{es:List Ent}(h:EsOk es):n∈flat es↔n%256∈plcE (n/256) es:=by
 rw [Zdc h.plt];rcases Zcu (n/256) h.up with z | ⟨e,z1,z2,z3⟩
 · have:plcE (n/256) es=[]:=by unfold plcE;rw [z]
   rw [this];constructor
   · rintro ⟨x,x1,x2,x3⟩
     have:x∈miE (n/256) es:=List.mem_filter.mpr ⟨x1,decide_eq_true x2⟩;rw [z] at this;cases this
   · intro x;cases x
 · have:plcE (n/256) es=e.ps:=by unfold plcE;rw [z1]
   rw [this];constructor
   · rintro ⟨x,x1,x2,x3⟩
     have:x∈miE (n/256) es:=List.mem_filter.mpr ⟨x1,decide_eq_true x2⟩;rw [z1] at this;cases List.mem_singleton.mp this;exact x3
   · intro x
     exact ⟨e,z3,z2,x⟩
theorem Zex {k:Nat}:∀ {a:Nat} {ps:List Nat},Up a ps→Up (256*k+a) (ps.map fun p=>256*k+p)
 | _,[],_=>trivial
 | a,p::r,h=>by
   obtain ⟨h1,h2⟩:a≤p∧Up (p+1) r:=h;exact ⟨by show 256*k+a≤256*k+p;omega,Zex h2⟩
theorem Zjr:∀ {a:Nat} {es:List Ent},Up a (kys es)→(∀ e∈es,Up 0 e.ps)→(∀ e∈es,∀ p∈e.ps,p<256)→Up (256*a) (flat es)
 | _,[],_,_,_=>trivial
 | a,e::r,h,h2,h3=>by
   obtain ⟨g1,g2⟩:a≤e.key∧Up (e.key+1) (kys r):=h;have u1:=(Zex (k:=e.key) (h2 e (.head _))).mono (a:=256*a) (by omega);refine u1.append (b:=256*(e.key+1)) (fun x hx=>?_) (Zjr g2 (fun x hx=>h2 x (.tail _ hx)) fun x hx=>h3 x (.tail _ hx)) (by omega);obtain ⟨p,hp,rfl⟩:=List.mem_map.mp hx;have:=h3 e (.head _) p hp;omega
theorem EsOk.flat_up {es:List Ent}(h:EsOk es):Up 0 (flat es):=Zjr h.up h.pup h.plt
theorem lo_up {k:Nat}{es:List Ent}(h:Up 0 (kys es)):Up 0 (kys (loE k es)):=by have:=Ze5 (fun x=>decide (x<k)) es;show Up 0 (kys (es.filter fun e=>decide (e.key<k)));rw [this];exact h.filter
theorem hi_up {k:Nat}{es:List Ent}(h:Up 0 (kys es)):Up (k+1) (kys (hiE k es)):=by have:=Ze5 (fun x=>decide (k<x)) es;show Up (k+1) (kys (es.filter fun e=>decide (k<e.key)));rw [this];exact up_from h.filter fun p hp=>of_decide_eq_true (List.mem_filter.mp hp).2
theorem Zcv {k:Nat} {ps:List Nat} {a:Nat} {es:List Ent} {e:Ent} (h:e∈keepE k ps a es):(e∈es∧e.key≠k)∨(ps≠[]∧e=⟨k,ps,a⟩):=by
 unfold keepE at h;rcases List.mem_append.mp h with h | h
 · rcases List.mem_append.mp h with h | h
   · exact .inl ⟨(ZfZ h).1,Nat.ne_of_lt (ZfZ h).2⟩
   · split at h
     · cases h
     · rename_i n
       exact .inr ⟨n,List.mem_singleton.mp h⟩
 · exact .inl ⟨(Zgh h).1,Nat.ne_of_gt (Zgh h).2⟩
theorem EsOk.keep {k:Nat}{ps:List Nat}{a:Nat}{es:List Ent}(h:EsOk es)(hk:k<256)(hu:Up 0 ps)(hl:∀ p∈ps,p<256):EsOk (keepE k ps a es):=by
 refine ⟨?_,fun e he=>?_,fun e he=>?_,fun e he=>?_,fun e he=>?_⟩
 · unfold keepE kys
   rw [List.map_append,List.map_append,List.append_assoc];refine Up.append (b:=k) (lo_up h.up) (fun x hx=>?_) ?_ (Nat.zero_le _)
   · obtain ⟨e,he,rfl⟩:=List.mem_map.mp hx
     exact (ZfZ he).2
   · have:=hi_up (k:=k) h.up
     split
     · exact this.mono (Nat.le_succ _)
     · exact ⟨Nat.le_refl _,this⟩
 · rcases Zcv he with ⟨z,_⟩ | ⟨_,rfl⟩
   · exact h.klt e z
   · exact hk
 · rcases Zcv he with ⟨z,_⟩ | ⟨_,rfl⟩
   · exact h.pup e z
   · exact hu
 · rcases Zcv he with ⟨z,_⟩ | ⟨_,rfl⟩
   · exact h.plt e z
   · exact hl
 · rcases Zcv he with ⟨z,_⟩ | ⟨z,rfl⟩
   · exact h.ne e z
   · exact z
theorem mi_keep {k j:Nat}{ps:List Nat}{a:Nat}{es:List Ent}:miE j (keepE k ps a es)=if j=k then (if ps=[] then [] else [⟨k,ps,a⟩]) else miE j es:=by
 unfold keepE miE;rw [List.filter_append,List.filter_append];by_cases c:j=k
 · subst c
   rw [if_pos rfl];have l1:(loE j es).filter (fun e=>decide (e.key=j))=[]:=List.filter_eq_nil_iff.mpr fun e he=>by have:=(ZfZ he).2;simp;omega
   have l2:(hiE j es).filter (fun e=>decide (e.key=j))=[]:=List.filter_eq_nil_iff.mpr fun e he=>by have:=(Zgh he).2;simp;omega
   rw [l1,l2];split<;>simp
 · rw [if_neg c]
   have l3:(if ps=[] then [] else [(⟨k,ps,a⟩:Ent)]).filter (fun e=>decide (e.key=j))=[]:=by
     split
     · rfl
     · simp;omega
   rw [l3,List.append_nil];unfold loE hiE;rw [List.filter_filter,List.filter_filter];rcases Nat.lt_or_gt_of_ne c with d | d
   · rw [show (es.filter fun e=>decide (e.key=j)&&decide (k<e.key))=[] from List.filter_eq_nil_iff.mpr fun e he=>by simp;omega,List.append_nil]
     exact List.filter_congr fun e he=>by by_cases z:e.key=j<;>simp [z,d]
   · rw [show (es.filter fun e=>decide (e.key=j)&&decide (e.key<k))=[] from List.filter_eq_nil_iff.mpr fun e he=>by simp;omega,List.nil_append]
     exact List.filter_congr fun e he=>by by_cases z:e.key=j<;>simp [z];omega
theorem plc_keep {k j:Nat}{ps:List Nat}{a:Nat}{es:List Ent}:plcE j (keepE k ps a es)=if j=k then ps else plcE j es:=by
 unfold plcE;rw [mi_keep];by_cases c:j=k
 · rw [if_pos c,if_pos c]
   by_cases n:ps=[]
   · rw [if_pos n,n]
   · rw [if_neg n]
 · rw [if_neg c,if_neg c]
end BM
namespace Lcg
def it:Nat→Nat→Nat
 | 0,i=>i
 | n+1,i=>it n (5*i+1)
theorem Zju:∀ n i,4*it n i+1=5^n*(4*i+1)
 | 0,i=>by rw [it,Nat.pow_zero,Nat.one_mul]
 | n+1,i=>by
   rw [it,Zju n,Nat.pow_succ,Nat.mul_assoc];congr 1
   omega
theorem it_add:∀ n m i,it (n+m) i=it m (it n i)
 | 0,m,i=>by rw [Nat.zero_add,it]
 | n+1,m,i=>by rw [Nat.add_right_comm,it,it_add n,it]
theorem sq (M v:Nat):(1+4*M*(2*v+1))*(1+4*M*(2*v+1))=1+4*(M*2)*(2*(v+M*(2*v+1)*(2*v+1))+1):=by grind
theorem five:∀ k,∃ v,5^(2^k)=1+4*2^k*(2*v+1)
 | 0=>⟨0,by decide⟩
 | k+1=>by
   obtain ⟨v,e⟩:=five k;exact ⟨_,by rw [Nat.pow_succ 2,Nat.pow_mul,e,Nat.pow_two];exact sq _ v⟩
theorem step (k i:Nat):∃ v,it (2^k) i=i+2^k+2^k*2*v:=by
 obtain ⟨v,e⟩:=five k;have h:=Zju (2^k) i;rw [e] at h;generalize it (2^k) i=x at h ⊢;generalize 2^k=M at h ⊢;refine ⟨(2*v+1)*2*i+v,?_⟩;have e2:(1+4*M*(2*v+1))*(4*i+1)=4*(i+M+M*2*((2*v+1)*2*i+v))+1:=by grind
 rw [e2] at h;omega
theorem reach:∀ k i j,∃ n,n<2^k∧it n i%2^k=j%2^k
 | 0,i,j=>⟨0,by decide,by rw [Nat.pow_zero,Nat.mod_one,Nat.mod_one]⟩
 | k + 1,i,j=>by
   obtain ⟨n,hn,e⟩:=reach k i j;by_cases h:it n i%2^(k+1)=j%2^(k+1)
   · exact ⟨n,by rw [Nat.pow_succ];omega,h⟩
   · refine ⟨n+2^k,by rw [Nat.pow_succ];omega,?_⟩
     obtain ⟨v,es⟩:=step k (it n i);rw [it_add,es];rw [Nat.pow_succ] at h ⊢;rw [Nat.add_mul_mod_self_left];generalize it n i=x at e h ⊢;have p:0<2^k:=Nat.two_pow_pos k;generalize 2^k=M at e h p ⊢;have d1:=Nat.mod_mul (x:=x) (a:=M) (b:=2);have d2:=Nat.mod_mul (x:=j) (a:=M) (b:=2);have d3:=Nat.mod_mul (x:=x+M) (a:=M) (b:=2);rw [d1,d2,e] at h;rw [d3,d2,Nat.add_mod_right,e,Nat.add_div_right _ p];congr 2
     have:x/M%2≠j/M%2:=fun z=>h (by rw [z])
     omega
end Lcg
namespace SG
open PySem PySem.SetTable
theorem ZiG (M:Nat):∀ n i,Lcg.it n (i%M)%M=Lcg.it n i%M
 | 0,i=>Nat.mod_mod _ _
 | n+1,i=>by
   rw [Lcg.it,Lcg.it,← ZiG M n (5*(i%M)+1),← ZiG M n (5*i+1)];congr 2
   rw [Nat.add_mod,Nat.mul_mod,Nat.mod_mod,← Nat.mul_mod,← Nat.add_mod]
section
variable {mask:Nat}{owner:Array (Option Nat)}
def Fr (owner:Array (Option Nat))(j:Nat):Prop:=(owner.getD j (some 0)).isNone=true
theorem ZjP (mask i:Nat):i≤runEnd mask i:=by unfold runEnd;split<;>omega
theorem ZjF {mask i:Nat}(h:i≤mask):runEnd mask i≤mask:=by unfold runEnd;split<;>omega
theorem ZeH:∀ (n i p j:Nat),i≤mask→layClean.free mask owner n i p=some j→j≤mask∧Fr owner j
 | 0,_,_,_,_,h=>by cases h
 | n + 1,i,p,j,hi,h=>by
   unfold layClean.free at h;split at h
   · rename_i k hk
     cases h;have hm:=List.mem_range.mp (List.mem_of_find?_eq_some hk);have:=ZjF hi;exact ⟨by omega,by simpa [Fr] using List.find?_some hk⟩
   · exact ZeH n _ _ j (by show (i*5+1+p/32)%(mask+1)≤mask;have:=Nat.mod_lt (i*5+1+p/32) (show 0<mask+1 by omega);omega) h
theorem Zks {n i p:Nat}(h:Fr owner i):layClean.free mask owner (n+1) i p≠none:=by
 unfold layClean.free;split
 · exact fun z=>by cases z
 · rename_i hk
   have:=List.find?_eq_none.mp hk 0 (List.mem_range.mpr (by have:=ZjP mask i;omega));exact absurd h (by simpa [Fr] using this)
theorem Zff {n i p:Nat}(h:layClean.free mask owner n (leap mask i p).1 (leap mask i p).2≠none):layClean.free mask owner (n+1) i p≠none:=by
 unfold layClean.free;split
 · exact fun z=>by cases z
 · exact h
theorem Zfm:∀ (n f i:Nat),i≤mask→n<f→Fr owner (Lcg.it n i%(mask+1))→layClean.free mask owner f i 0≠none
 | 0,f+1,i,hi,_,h=>Zks (by rw [Lcg.it,Nat.mod_eq_of_lt (by omega)] at h;exact h)
 | n+1,f+1,i,hi,hf,h=>by
   refine Zff ?_;show layClean.free mask owner f ((i*5+1+0/32)%(mask+1)) (0/32)≠none;rw [Nat.zero_div,Nat.add_zero];refine Zfm n f _ (by have:=Nat.mod_lt (i*5+1) (show 0<mask+1 by omega);omega) (by omega) ?_;rw [ZiG,Nat.mul_comm];exact h
 | 0,0,_,_,h,_=>absurd h (Nat.lt_irrefl 0)
 | n+1,0,_,_,h,_=>absurd h (Nat.not_lt_zero _)
theorem ZgD {k:Nat}(hk:mask+1=2^k){j:Nat}(hj:j≤mask)(h:Fr owner j):∀ (d f i p:Nat),i≤mask→p<32^d→d+2^k≤f→layClean.free mask owner f i p≠none
 | 0,f,i,p,hi,hp,hf=>by
   have p0:p=0:=by rw [Nat.pow_zero] at hp;omega
   obtain ⟨n,hn,e⟩:=Lcg.reach k i j;rw [← hk,Nat.mod_eq_of_lt (show j<mask+1 by omega)] at e;rw [p0];exact Zfm n f i hi (by omega) (by rw [e];exact h)
 | d+1,0,i,p,hi,hp,hf=>by omega
 | d + 1,f+1,i,p,hi,hp,hf=>by
   refine Zff (ZgD hk hj h d f _ _ ?_ ?_ (by omega))
   · show (i*5+1+p/32)%(mask+1)≤mask
     have:=Nat.mod_lt (i*5+1+p/32) (show 0<mask+1 by omega);omega
   · show p/32<32^d
     rw [Nat.pow_succ] at hp;exact Nat.div_lt_of_lt_mul (by rw [Nat.mul_comm];exact hp)
theorem bits_lt (h:Int):bits h<2^64:=by unfold bits;have h1:=Int.emod_nonneg h (b:=(2^64:Int)) (by decide);have h2:=Int.emod_lt_of_pos h (b:=(2^64:Int)) (by decide);omega
theorem Zir {k:Nat}(hk:mask+1=2^k){j:Nat}(hj:j≤mask)(hf:Fr owner j)(h:Int):∃ j,layClean.free mask owner (turns mask) (bits h%(mask+1)) (bits h)=some j∧j≤mask∧Fr owner j:=by
 have hi:bits h%(mask+1)≤mask:=by have:=Nat.mod_lt (bits h) (show 0<mask+1 by omega);omega
 have:=ZgD hk hj hf 13 (turns mask) (bits h%(mask+1)) (bits h) hi (Nat.lt_trans (bits_lt h) (by decide)) (by unfold turns;omega);obtain ⟨x,e⟩:=Option.ne_none_iff_exists'.mp this;exact ⟨x,e,ZeH _ _ _ _ hi e⟩
end
theorem Zf1 {α:Type}(y:α)(r:List (Option α)):(some y::r).filterMap id=y::r.filterMap id:=rfl
theorem ZhB {α β:Type}{f g:α→Option β}(h:∀ x,f x=g x)(l:List α):l.filterMap f=l.filterMap g:=by rw [show f=g from funext h]
theorem ZeW {α:Type}(x:α):∀ (l:List (Option α)) (j:Nat),l[j]?=some none→((l.set j (some x)).filterMap id).Perm (x::l.filterMap id)
 | [],_,h=>by cases h
 | none::r,0,_=>by simp
 | some y::r,0,h=>by simp at h
 | none::r,j+1,h=>by
   rw [List.set_cons_succ,List.filterMap_cons_none rfl,List.filterMap_cons_none rfl];exact ZeW x r j (by simpa using h)
 | some y::r,j+1,h=>by
   rw [List.set_cons_succ,Zf1,Zf1];exact ((ZeW x r j (by simpa using h)).cons y).trans (List.Perm.swap x y _)
theorem ZfK {α:Type}:∀ (l:List (Option α)),(l.filterMap id).length<l.length→∃ j,j<l.length∧l[j]?=some none
 | [],h=>absurd h (Nat.lt_irrefl 0)
 | none::r,_=>⟨0,Nat.succ_pos _,rfl⟩
 | some y::r,h=>by
   rw [Zf1,List.length_cons,List.length_cons] at h;obtain ⟨j,h1,h2⟩:=ZfK r (by omega);exact ⟨j+1,by rw [List.length_cons];omega,by simpa using h2⟩
theorem Zhx {mask k:Nat} (hk:mask+1=2^k):∀ (hs:List Int) (owner:Array (Option Nat)) (m:Nat),owner.size=mask+1→(owner.toList.filterMap id).Perm (List.range m)→m+hs.length≤mask+1 →
   ∃ owner',hs.foldl (init:=some (owner,m)) (fun acc h=>do let (owner,k) ← acc;let j ← layClean.free mask owner (turns mask) (bits h%(mask+1)) (bits h);pure (owner.setIfInBounds j (some k),k+1))=some (owner',m+hs.length)∧owner'.size=mask+1∧(owner'.toList.filterMap id).Perm (List.range (m+hs.length))
 | [],owner,m,h1,h2,_=>⟨owner,rfl,h1,h2⟩
 | h :: r,owner,m,h1,h2,h3=>by
   rw [List.length_cons] at h3;have lf:=h2.length_eq;rw [List.length_range] at lf;obtain ⟨j,hj,hn⟩:=ZfK owner.toList (by rw [lf,Array.length_toList,h1];omega);rw [Array.length_toList,h1] at hj;have fr:Fr owner j:=by unfold Fr;rw [Array.getElem?_toList] at hn;rw [Array.getD_eq_getD_getElem?,hn];rfl
   obtain ⟨x,ex,hx,fx⟩:=Zir hk (show j≤mask by omega) fr h;have nx:owner.toList[x]?=some none:=by
     unfold Fr at fx;rw [Array.getD_eq_getD_getElem?] at fx;rw [Array.getElem?_toList];cases e:owner[x]? with
     | none=>rw [e] at fx;cases fx
     | some v =>
       rw [e] at fx;cases v with
       | none=>rfl
       | some w=>cases fx
   obtain ⟨o',e1,e2,e3⟩:=Zhx hk r (owner.setIfInBounds x (some m)) (m+1) (by rw [Array.size_setIfInBounds];exact h1) (by
     rw [Array.toList_setIfInBounds];refine (ZeW m _ x nx).trans ?_;rw [List.range_succ];exact (h2.cons m).trans (List.perm_append_singleton m _).symm) (by omega)
   refine ⟨o',?_,e2,by rw [List.length_cons,show m+(r.length+1)=m+1+r.length by omega];exact e3⟩;rw [List.foldl_cons,List.length_cons,show m+(r.length+1)=m+1+r.length by omega,← e1];congr 1
   show (layClean.free mask owner (turns mask) (bits h%(mask+1)) (bits h)).bind _=_;rw [ex];rfl
theorem ZeK {mask k finger moves:Nat}{led plain:Bool}(hk:mask+1=2^k)(hs:Array Int)(hn:hs.size≤mask+1):∃ t order,laid mask finger moves led plain hs=some (t,order)∧order.toList.Perm (List.range hs.size)∧t.mask=mask∧t.dummies=#[]∧t.led=led∧t.plain=plain∧t.finger=finger∧t.place.toList.Pairwise (·<·)∧t.place.size=hs.size:=by
 obtain ⟨o,e1,e2,e3⟩:=Zhx hk hs.toList (Array.replicate (mask+1) none) 0 (by rw [Array.size_replicate]) (by simp) (by rw [Array.length_toList];omega);rw [Nat.zero_add,Array.length_toList] at e1 e3;have el:layClean mask hs=some o:=by unfold layClean;rw [← Array.foldl_toList,e1];rfl
 have snd:(((List.range (mask+1)).filterMap fun j=>(o.getD j none).map (j,·)).map (·.2))=o.toList.filterMap id:=by
   rw [List.map_filterMap];have:o.toList=(List.range (mask+1)).map fun j=>o.getD j none:=by
     refine List.ext_getElem (by rw [Array.length_toList,e2,List.length_map,List.length_range]) fun i h1 h2=>?_
     rw [List.getElem_map,List.getElem_range,Array.getD_eq_getD_getElem?,Array.getElem_toList,Array.getElem?_eq_getElem (by rw [Array.length_toList] at h1;exact h1)];rfl
   rw [this,List.filterMap_map];refine ZhB (fun j=>?_) _;show Option.map _ ((o.getD j none).map _)=o.getD j none;cases o.getD j none<;>rfl
 unfold laid;rw [el];refine ⟨_,_,rfl,?_,rfl,rfl,rfl,rfl,rfl,?_,?_⟩
 · rw [List.toList_toArray,snd]
   exact e3
 · rw [List.toList_toArray]
   refine List.Pairwise.sublist ?_ (List.pairwise_lt_range (n:=mask+1));rw [List.map_filterMap];have:(fun (x:Nat)=>Option.map (·.1) ((o.getD x none).map (x,·)))=fun x=>if (o.getD x none).isSome then some x else none:=by funext x;cases o.getD x none<;>rfl
   rw [this];have e:(List.range (mask+1)).filterMap (fun x=>if (o.getD x none).isSome then some x else none)=(List.range (mask+1)).filter fun x=>(o.getD x none).isSome:=by rw [← List.filterMap_eq_filter];refine ZhB (fun x=>?_) _;simp [Option.guard]
   rw [e];exact List.filter_sublist
 · rw [List.size_toArray,List.length_map]
   have:=e3.length_eq;rw [← snd,List.length_map,List.length_range] at this;exact this
end SG
namespace SG
open PySem PySem.Spec PyProof.Rows
theorem ZgO (n:Nat):∀ (f j:Nat),n<2^(j+f)→∃ k,SetTable.sizeAbove.go n f (2^j)=2^k∧n<2^k∧(2^k≤2^j∨2^k≤2*n)
 | 0,j,h=>⟨j,rfl,h,.inl (Nat.le_refl _)⟩
 | f + 1,j,h=>by
   unfold SetTable.sizeAbove.go;split
   · rename_i c
     obtain ⟨k,e,h1,h2⟩:=ZgO n f (j+1) (by rw [show j+1+f=j+(f+1) by omega];exact h);rw [Nat.pow_succ] at e h2;refine ⟨k,e,h1,?_⟩;rcases h2 with h2 | h2
     · exact .inr (by omega)
     · exact .inr h2
   · rename_i c
     exact ⟨j,rfl,by omega,.inl (Nat.le_refl _)⟩
theorem above {n:Nat}(h:n<100000):∃ k,SetTable.sizeAbove n=2^k∧n<2^k∧2^k≤2*n+8:=by obtain ⟨k,e,h1,h2⟩:=ZgO n 64 3 (Nat.lt_trans h (by decide));exact ⟨k,e,h1,by rcases h2 with h2 | h2<;>omega⟩
section
variable {prog:Program}{w:World}{A:Around}{E:Value→Shared→Prop}{s:Shared}
theorem reord {es:Array (Int × Value)}{order:Array Nat}(p:order.toList.Perm (List.range es.size)):(order.filterMap (es[·]?)).toList.Perm es.toList:=by rw [Array.toList_filterMap];exact (p.filterMap _).trans (by rw [filterMap_getElem?_range])
structure SA (prog:Program)(w:World)(h:Heap)(a:Addr)(o:Obj)(es:Array (Int × Value))(ep:Nat)(t:SetTable):Prop where
 ho:h.get? a=some o
 hx:o.ExactSet
 hd:o.data=.set es ep t
 el:ElemsOf (intKind prog w) es.toList
 hb:es.size<scanBound
 hf:t.fits es.size=true
 gd:Good (bt w) t
 nd:(es.toList.map fun e=>iv e.2).Nodup
theorem SA.st {h:Heap}{a:Addr}{o:Obj}{es:Array (Int × Value)}{ep:Nat}{t:SetTable}(x:SA prog w h a o es ep t):ST prog w h a (es.toList.map fun e=>iv e.2) :=
 ⟨o,es,ep,t,x.ho,x.hx,x.hd,x.el,x.hb,x.hf,x.gd,rfl,x.nd⟩
theorem ST.sa {h:Heap}{a:Addr}{ks:List Int}(x:ST prog w h a ks):∃ o es ep t,SA prog w h a o es ep t∧(es.toList.map fun e=>iv e.2)=ks :=
 let ⟨o,es,ep,t,h1,h2,h3,h4,h5,h6,h7,h8,h9⟩:=x
 ⟨o,es,ep,t,⟨h1,h2,h3,h4,h5,h6,h7,h8 ▸ h9⟩,h8⟩
theorem SA.store {a:Addr}{o:Obj}{es es':Array (Int × Value)}{ep:Nat}{t t':SetTable}{h:Heap}(x:SA prog w h a o es ep t)(el:ElemsOf (intKind prog w) es'.toList)(hb:es'.size<scanBound)(hf:t'.fits es'.size=true)(gd:Good (bt w) t')(nd:(es'.toList.map fun e=>iv e.2).Nodup) :
   SA prog w (h.update a (Obj.putSet es' t')) a { o with data:=.set es' (ep+1) t' } es' (ep+1) t':=⟨Zh5 x.ho x.hd es' t',x.hx,rfl,el,hb,hf,gd,nd⟩
theorem ZgJ {bt:Bool}{t:SetTable}(l:t.led=!bt)(r:t.place.toList.Pairwise (·<·)):Good bt t:=⟨l,fun _=>ris_iff.mpr r⟩
theorem Zi4 {t:SetTable}{n:Nat}(h1:t.place.size=n)(h2:t.place.size+t.dummies.size≤t.mask):t.fits n=true:=by unfold SetTable.fits SetTable.fill;rw [Bool.and_eq_true,beq_iff_eq,decide_eq_true_eq];exact ⟨h1,h2⟩
theorem relay {a:Addr}{o:Obj}{es:Array (Int × Value)}{ep wanted:Nat}{t:SetTable}{Q:Unit→Shared→Prop}(x:SA prog w s.heap a o es ep t)(hn:es.size≤wanted)(hw:wanted<100000)
   (q:∀ es' t',es'.toList.Perm es.toList→SA prog w (s.heap.update a (Obj.putSet es' t')) a { o with data:=.set es' (ep+1) t' } es' (ep+1) t'→t'.dummies=#[]→(∃ k,t'.mask+1=2^k)→wanted≤t'.mask→Q () { s with heap:=s.heap.update a (Obj.putSet es' t') }) :
   wpAny (model prog w) A (setRelay a wanted) Q E s:=by
 obtain ⟨k,ek,h1,h2⟩:=above hw;unfold setRelay;refine wpAny_bind (wpAny_setState_of x.ho x.hd x.hf ?_);dsimp only;rw [if_neg (by rw [ek,sizeLine_eq];omega)];have hp:0<2^k:=Nat.two_pow_pos k;obtain ⟨t',order,e1,e2,e3,e4,e5,e6,e7,e8,e9⟩:=ZeK (mask:=2^k-1) (k:=k) (finger:=t.finger) (moves:=t.movedTo (2^k-1)) (led:=t.led) (plain:=t.plain) (by omega) (es.map (·.1)) (by rw [Array.size_map];omega);rw [Array.size_map] at e2 e9;have pe:=reord e2;have sz:=Zb3 pe;have er:t.relaid (es.map (·.1)) wanted=some (t',order):=by unfold SetTable.relaid;rw [ek];exact e1
 rw [er];have hf:t'.fits (order.filterMap (es[·]?)).size=true:=Zi4 (by rw [sz,e9]) (by rw [e4,e9,e3];show es.size+0≤_;omega);have X:=x.store (es':=order.filterMap (es[·]?)) (t':=t') (x.el.perm pe) (by rw [sz];exact x.hb) hf (ZgJ (e5.trans x.gd.led) e8) ((pe.map fun e=>iv e.2).nodup_iff.mpr x.nd);refine wpAny_bind ?_;show wpAny _ _ (if ((order.filterMap (es[·]?)).size != es.size)=true then _ else _) _ _ _;rw [if_neg (by rw [sz,bne_self_eq_false];decide)];refine wpAny_pure ?_;refine wpAny_storeSet_of x.ho x.hd (q _ t' pe X e4 ⟨k,by rw [e3];omega⟩ (by rw [e3];omega)) (fits_of_scanBound (by rw [sz];exact x.hb))
end
end SG
namespace SG
open PySem PySem.Spec PyProof.Rows
section
variable {prog:Program}{w:World}{A:Around}{E:Value→Shared→Prop}{s:Shared}
theorem room {a:Addr}{o:Obj}{es:Array (Int × Value)}{ep more:Nat}{t:SetTable}{Q:Unit→Shared→Prop}(x:SA prog w s.heap a o es ep t)(hm:es.size+more<10000)
   (q:∀ h' o' es' ep' t',Heap.SameBut a s.heap h'→SA prog w h' a o' es' ep' t'→es'.toList.Perm es.toList→((∃ k,t.mask+1=2^k)→∃ k,t'.mask+1=2^k)→es.size+more≤t'.mask→(t.dummies=#[]→t'.dummies=#[])→Q () { s with heap:=h' }) :
   wpAny (model prog w) A (setRoomFor a more) Q E s:=by
 unfold setRoomFor;refine wpAny_bind (wpAny_setState_of x.ho x.hd x.hf ?_);have hf:=x.hf;unfold SetTable.fits SetTable.fill at hf;rw [Bool.and_eq_true,beq_iff_eq,decide_eq_true_eq] at hf;dsimp only;unfold SetTable.roomFor;split
 · rename_i wanted hw
   split at hw
   · cases hw
     refine relay x (by rw [hf.1];omega) (by rw [hf.1];omega) fun es' t' pe X d2 hk hle=>q _ _ es' _ t' (Heap.SameBut.update _ a _) X pe (fun _=>hk) ?_ fun _=>d2
     rw [hf.1] at hle;omega
   · cases hw
 · rename_i hw
   split at hw
   · exact (hw _ rfl).elim
   · rename_i c
     unfold SetTable.fill at c;exact wpAny_pure (q s.heap o es ep t (Heap.SameBut.refl a s.heap) x (.refl _) id (by omega) id)
theorem int_of {es:Array (Int × Value)}(el:ElemsOf (intKind prog w) es.toList){e:Int × Value}(he:e∈es.toList):∃ k t,e=((intKind prog w).hash k,Value.int k t):=by obtain ⟨⟨k,h1,h2⟩,_⟩:=el e he;obtain ⟨t,e2⟩:=Value.isInt_shape h1;obtain ⟨a,b⟩:=e;cases h2;cases e2;exact ⟨k,t,rfl⟩
theorem Zgg {ss:List Addr}{Q:Bool→Shared→Prop}(q:Q true s)(h:∀ a∈ss,∃ o es ep t,SA prog w s.heap a o es ep t):wpAny (model prog w) A (setsQuiet ss) Q E s:=by
 unfold setsQuiet;refine wpAny_bind (wpAny_forIn_list _ (fun l b s'=>b=(none,())∧s'=s∧∀ a∈l,a∈ss) _ ?_ ?_ _ _ ⟨rfl,rfl,fun _ h=>h⟩)
 · rintro a rest b s' ⟨rfl,rfl,ha⟩
   obtain ⟨o,es,ep,t,x⟩:=h a (ha a (.head _));unfold setEntries;refine wpAny_bind (wpAny_bind (wpAny_setState_of x.ho x.hd x.hf (wpAny_pure ?_)));refine wpAny_bind ?_;rw [← Array.forIn_toList];refine wpAny_forIn_list _ (fun l b s2=>b=(none,())∧s2=s'∧∀ e∈l,e∈es.toList) _ ?_ ?_ _ _ ⟨rfl,rfl,fun _ h=>h⟩
   · rintro e rest2 b s2 ⟨rfl,rfl,he⟩
     obtain ⟨k,tk,rfl⟩:=int_of x.el (he e (.head _));exact wpAny_pure ⟨rfl,rfl,fun y hy=>he y (.tail _ hy)⟩
   · rintro b s2 ⟨rfl,rfl,_⟩
     exact wpAny_pure ⟨rfl,rfl,fun y hy=>ha y (.tail _ hy)⟩
 · rintro b s' ⟨rfl,rfl,_⟩
   exact wpAny_pure q
theorem ZgQ {a f:Addr} {o fo:Obj} {es fes:Array (Int × Value)} {ep fep:Nat} {t ft:SetTable} {Q:Array (Int × Value)→Shared→Prop} (x:SA prog w s.heap a o es ep t) (y:SA prog w s.heap f fo fes fep ft)
   (q:∀ es' h' fo' fep' ft',es'.toList.Perm es.toList→Heap.SameBut f s.heap h'→SA prog w h' f fo' fes fep' ft'→Q es' { s with heap:=h' }):wpAny (model prog w) A (setWalkUnseen a [f] (some f)) Q E s:=by
 have led:=x.gd.led;have fled:=y.gd.led;have q0:∀ es',es'.toList.Perm es.toList→Q es' s:=fun es' p=>q es' s.heap fo fep ft p (Heap.SameBut.refl f s.heap) y
 unfold setWalkUnseen;refine wpAny_bind (wpAny_setState_of x.ho x.hd x.hf ?_);dsimp only;refine wpAny_bind (ZcB ?_);split
 · rename_i c
   unfold setWalk;refine wpAny_bind (wpAny_setState_of x.ho x.hd x.hf ?_);dsimp only;refine wpAny_bind (ZcB ?_);split
   · refine wpAny_bind (wpAny_askSetting (wpAny_pure (q0 _ (ZdP _ _))))
   · rename_i nb
     have nb:bt w=false:=by simpa using nb
     have tl:t.led=true:=by rw [led,nb];rfl
     have nd:(!t.plain&&decide (es.size > 1))=false:=by
       rw [nb,tl,Bool.false_or,Bool.true_and,Bool.or_eq_true,decide_eq_true_eq] at c;rcases c with c | c
       · rw [c];rfl
       · rw [decide_eq_false (by omega),Bool.and_false]
     show wpAny _ _ (if (!t.plain&&decide (es.size > 1))=true then _ else _) _ _ _;rw [nd,if_neg (by decide)];refine wpAny_bind ?_;show wpAny _ _ (if (!t.led&&decide (es.size > 1))=true then _ else _) _ _ _;rw [tl,if_neg (by simp)];exact wpAny_pure (wpAny_pure (q0 es (.refl _)))
 · rename_i c
   refine wpAny_bind (Zgg ?_ ?_)
   · rw [if_neg (by decide)]
     refine wpAny_bind (wpAny_rule (wpAny_bind (wpAny_setState_of y.ho y.hd y.hf ?_)));dsimp only;split
     · refine wpAny_bind (wpAny_storeSet_of y.ho y.hd (wpAny_pure ?_) (fits_of_scanBound y.hb))
       exact q es _ _ _ _ (.refl _) (Heap.SameBut.update _ f _) (y.store y.el y.hb y.hf ⟨by show (ft.led&&t.led)=_;rw [led,fled,Bool.and_self],fun hp=>y.gd.ris (by have hp:(ft.plain&&t.plain)=true:=hp;rw [Bool.and_eq_true] at hp;exact hp.1)⟩ y.nd)
     · exact wpAny_pure (q0 es (.refl _))
   · intro b hb
     rcases List.mem_cons.mp hb with rfl | hb
     · exact ⟨_,_,_,_,x⟩
     · rw [List.mem_singleton.mp hb]
       exact ⟨_,_,_,_,y⟩
theorem SA.but {h h':Heap}{a:Addr}{o:Obj}{es:Array (Int × Value)}{ep:Nat}{t:SetTable}(x:SA prog w h a o es ep t)(e:h'.get? a=h.get? a):SA prog w h' a o es ep t:=⟨e.trans x.ho,x.hx,x.hd,x.el,x.hb,x.hf,x.gd,x.nd⟩
theorem ZfB {a b:Addr}{o bo:Obj}{es:Array (Int × Value)}{ep bep:Nat}{t:SetTable}{Q:Unit→Shared→Prop}{each:Sem Unit}(ne:a≠b)(x:SA prog w s.heap a o #[] ep (.fresh 0 0 (!bt w)))(y:SA prog w s.heap b bo es bep t)
   (q:∀ h' ks,Heap.SameBut a s.heap h'→ST prog w h' a ks→ks.Perm (es.toList.map fun e=>iv e.2)→Q () { s with heap:=h' }):wpAny (model prog w) A (setMerge a b each) Q E s:=by
 unfold setMerge;rw [if_neg (by rw [beq_iff_eq];exact ne)];refine wpAny_bind (wpAny_setState_of y.ho y.hd y.hf ?_);dsimp only;split
 · rename_i c
   have e0:es=#[]:=by simpa using c
   subst e0;exact wpAny_pure (q s.heap [] (Heap.SameBut.refl a s.heap) x.st (.refl _))
 · rename_i c
   refine wpAny_bind (room x (by have:=y.hb;unfold scanBound at this;show 0+es.size<10000;omega) fun h1 o1 es1 ep1 t1 sb x1 pe hk hle hd=>?_);have z1:es1=#[]:=by have:=pe.length_eq;rw [Array.length_toList] at this;exact Array.eq_empty_of_size_eq_zero this
   subst z1;have hk:=hk ⟨3,rfl⟩;have hd:=hd rfl;refine wpAny_bind (wpAny_setState_of x1.ho x1.hd x1.hf ?_);dsimp only;have hf:=x1.hf;unfold SetTable.fits at hf;rw [Bool.and_eq_true,beq_iff_eq] at hf;have f0:t1.fill=0:=by unfold SetTable.fill;rw [hf.1,hd];rfl
   have y1:SA prog w h1 b bo es bep t:=y.but (sb.2 b ne.symm);unfold SetTable.road;rw [f0,if_neg (by decide)];have hled:(t1.led&&t.led)=!bt w:=by rw [x1.gd.led,y.gd.led,Bool.and_self]
   have hle:es.size≤t1.mask:=by have:0+es.size≤t1.mask:=hle;omega
   by_cases cr:(t1.mask==t.mask&&t.dummies.isEmpty)=true
   · rw [if_pos cr]
     dsimp only;refine wpAny_storeSet_of x1.ho x1.hd ?_ (fits_of_scanBound y.hb);exact q _ _ (sb.trans (Heap.SameBut.update _ a _)) (x1.store (t':={ t with finger:=t1.finger,led:=t1.led&&t.led,moves:=t1.moves,plain:=t1.plain&&t.plain }) y.el y.hb y.hf ⟨hled,fun hp=>y.gd.ris (by have hp:(t1.plain&&t.plain)=true:=hp;rw [Bool.and_eq_true] at hp;exact hp.2)⟩ y.nd).st (.refl _)
   · rw [if_neg cr]
     dsimp only;obtain ⟨k,hk⟩:=hk;obtain ⟨t',order,e1,e2,e3,e4,e5,e6,e7,e8,e9⟩:=ZeK (mask:=t1.mask) (k:=k) (finger:=t1.finger) (moves:=t1.moves) (led:=t1.led&&t.led) (plain:=t1.plain&&t.plain) hk (es.map (·.1)) (by rw [Array.size_map];omega);rw [Array.size_map] at e2 e9;have pp:=reord e2;have sz:=Zb3 pp;rw [e1];have hf':t'.fits (order.filterMap (es[·]?)).size=true:=Zi4 (by rw [sz,e9]) (by rw [e4,e9,e3];show es.size+0≤_;omega);refine wpAny_bind ?_;show wpAny _ _ (if ((order.filterMap (es[·]?)).size != es.size)=true then _ else _) _ _ _;rw [if_neg (by rw [sz,bne_self_eq_false];decide)];refine wpAny_pure ?_;refine wpAny_storeSet_of x1.ho x1.hd ?_ (fits_of_scanBound (by rw [sz];exact y.hb));exact q _ _ (sb.trans (Heap.SameBut.update _ a _)) (x1.store (y.el.perm pp) (by rw [sz];exact y.hb) hf' (ZgJ (e5.trans hled) e8) ((pp.map fun e=>iv e.2).nodup_iff.mpr y.nd)).st (pp.map _)
theorem Ziq {a b:Addr}{o bo:Obj}{fes es:Array (Int × Value)}{ep bep:Nat}{ft t:SetTable}{Q:Unit→Shared→Prop}{each:Sem Unit}(ne:a≠b)(x:SA prog w s.heap a o fes ep ft)(y:SA prog w s.heap b bo es bep t)(hne:fes.size≠0)(hb:fes.size+es.size+1<scanBound)
   (he:∀ s' (Q':Unit→Shared→Prop),SA prog w s'.heap b bo es bep t→Q' () s'→wpAny (model prog w) A each Q' E s')
   (q:∀ h' ks,Heap.SameBut a s.heap h'→ST prog w h' a ks→(∀ z,z∈ks↔z∈(fes.toList.map fun e=>iv e.2)∨z∈es.toList.map fun e=>iv e.2)→ks.length≤fes.size+es.size→Q () { s with heap:=h' }):wpAny (model prog w) A (setMerge a b each) Q E s:=by
 unfold setMerge;rw [if_neg (by rw [beq_iff_eq];exact ne)];refine wpAny_bind (wpAny_setState_of y.ho y.hd y.hf ?_);dsimp only;split
 · rename_i c
   have e0:es=#[]:=by simpa using c
   subst e0;refine wpAny_pure (q s.heap _ (Heap.SameBut.refl a s.heap) x.st (fun z=>?_) (by rw [List.length_map,Array.length_toList];exact Nat.le_refl _));simp
 · rename_i c
   refine wpAny_bind (room x (by unfold scanBound at hb;omega) fun h1 o1 es1 ep1 t1 sb x1 pe hk hle hd=>?_);have s1:=Zb3 pe;refine wpAny_bind (wpAny_setState_of x1.ho x1.hd x1.hf ?_);dsimp only;have hf:=x1.hf;unfold SetTable.fits at hf;rw [Bool.and_eq_true,beq_iff_eq] at hf;have f0:(t1.fill != 0)=true:=by unfold SetTable.fill;rw [bne_iff_ne];omega
   have y1:SA prog w h1 b bo es bep t:=y.but (sb.2 b ne.symm);unfold SetTable.road;rw [if_pos f0];dsimp only;refine wpAny_bind (ZgQ (s:={ s with heap:=h1 }) y1 x1 fun es' h2 o2 ep2 t2 pw sb2 x2=>?_);rw [← Array.forIn_toList];have y2:SA prog w h2 b bo es bep t:=y1.but (sb2.2 b ne.symm);refine wpAny_bind (wpAny_forIn_list _ (fun l _ s'=>∃ h' ks,s'={ s with heap:=h' }∧Heap.SameBut a s.heap h'∧ST prog w h' a ks∧(∀ e∈l,e∈es.toList)∧(∀ z,(z∈ks∨z∈l.map fun e=>iv e.2)↔z∈(fes.toList.map fun e=>iv e.2)∨z∈es.toList.map fun e=>iv e.2)∧ks.length+l.length≤fes.size+es.size) _ ?_ ?_ _ _ ⟨h2,_,rfl,sb.trans sb2,x2.st,fun e h=>pw.mem_iff.mp h,fun z=>?_,?_⟩)
   · rintro e rest u s' ⟨h',ks,rfl,sb',st,hm,hz,hl⟩
     obtain ⟨k,tk,rfl⟩:=int_of y.el (hm e (.head _));rw [List.length_cons] at hl;refine wpAny_bind (wpAny_holding (add_int (s:={ s with heap:=h' }) st (by omega) fun bb h3 ks3 sb3 st3 m3 l3=>?_));have y3:SA prog w h3 b bo es bep t:=y.but ((sb3.2 b ne.symm).trans (sb'.2 b ne.symm));refine wpAny_bind (he _ _ y3 ?_);refine wpAny_bind (wpAny_setState_of y3.ho y3.hd y3.hf ?_);dsimp only;rw [if_neg (by rw [bne_self_eq_false];decide)];refine wpAny_pure ⟨h3,ks3,rfl,sb'.trans sb3,st3,fun e h=>hm e (.tail _ h),fun z=>?_,by omega⟩;rw [← hz z,m3 z,List.map_cons,List.mem_cons];show (z∈ks∨z=k)∨_↔z∈ks∨z=k∨_;rw [or_assoc]
   · rintro u s' ⟨h',ks,rfl,sb',st,_,hz,hl⟩
     refine wpAny_pure (q h' ks sb' st (fun z=>?_) hl);rw [← hz z];simp
   · rw [(pe.map fun e=>iv e.2).mem_iff,(pw.map fun e=>iv e.2).mem_iff]
   · rw [List.length_map,Array.length_toList,Array.length_toList,Zb3 pw,s1]
     exact Nat.le_refl _
end
end SG
namespace SG
open PySem PySem.Spec PyProof.Rows
theorem ZiU:Slot "set" "__or__" "set.__or__" :=
 .of (owner:="set") (n:="__or__") (by rw [typeLookup_type,builtinLookup_eq_fast];kernel_rfl) (by decide +kernel) (by decide +kernel) (by decide +kernel) (by first | exact .inl (by decide +kernel) | exact .inr (by decide +kernel)) (by rw [isSubtype_type];kernel_rfl)
theorem entry_or:entryFor table "set.__or__"=some Builtin.«frozenset.__or__»:=entryFor_alias (id':="frozenset.__or__") (by kernel_rfl) (by first | rfl | decide +kernel | (unfold String.splitOn;simp +decide [String.splitOnAux])) (by decide +kernel) (by kernel_rfl)
theorem args_or (a b:Value):argsOk "set.__or__" ⟨[a,b],[]⟩:=by unfold argsOk;kernel_rfl
theorem fills_or:fillsNumberSlot (.type "set") Operator.BitOr.info.2=pure true :=
 fillsNumberSlot_of (id:="set.__or__") (r:=some (.builtin "set.__ror__")) (by rw [typeLookup_type,builtinLookup_eq_fast];kernel_rfl) (by decide +kernel) (by rw [typeLookup_type,builtinLookup_eq_fast];kernel_rfl)
section
variable {prog:Program}{w:World}{A:Around}{E:Value→Shared→Prop}{s:Shared}
theorem Zf7 {a:Addr}{Q:Bool→Shared→Prop}(hT:s.TypeIs (.ref a) "set")(q:Q true s):wpAny (model prog w) A (Builtin.Frozenset.isAnySet (.ref a)) Q E s:=by unfold Builtin.Frozenset.isAnySet;refine wpAny_bind (wpAny_isInstance hT sub_set_self ?_);exact wpAny_pure q
theorem base_set {a:Addr}{Q:Value→Shared→Prop}(hT:s.TypeIs (.ref a) "set")(q:Q (.type "set") s):wpAny (model prog w) A (Builtin.Frozenset.baseOf a) Q E s:=by unfold Builtin.Frozenset.baseOf;refine wpAny_bind (wpAny_isInstance hT sub_set_self ?_);exact wpAny_pure q
theorem new_obj {Q:Value→Shared→Prop}(q:Q (.ref s.heap.objs.size) { s with heap:=s.heap.push { cls:=.type "set",dict:=none,data:=.set #[] 0 (.fresh 0 0 (!bt w)) } }):wpAny (model prog w) A (newSet (.type "set")) Q E s:=by unfold newSet;refine wpAny_bind (m:=setsByText) ?_;unfold setsByText;refine wpAny_bind (wpAny_askSetting (wpAny_pure ?_));simp only [newObj];exact wpAny_bind (wpAny_alloc (wpAny_pure q))
theorem ST.type {a:Addr}{ks:List Int}(x:ST prog w s.heap a ks):s.TypeIs (.ref a) "set":=by obtain ⟨o,es,ep,t,ho,hx,_⟩:=x;exact ⟨o,ho,hx.1⟩
theorem ZjW {a b:Addr}{bo:Obj}{bep:Nat}{t:SetTable}{Q:Unit→Shared→Prop}{each:Sem Unit}(ne:a≠b)(y:SA prog w s.heap b bo #[] bep t)(q:Q () s):wpAny (model prog w) A (setMerge a b each) Q E s:=by unfold setMerge;rw [if_neg (by rw [beq_iff_eq];exact ne)];refine wpAny_bind (wpAny_setState_of y.ho y.hd y.hf ?_);exact wpAny_pure q
theorem ZeC {id:String}{r b:Addr}{ob:Obj}{eb:Array (Int × Value)}{pb:Nat}{tb:SetTable}{Q:Unit→Shared→Prop}(y:SA prog w s.heap b ob eb pb tb)
   (h:wpAny (model prog w) A (setMerge r b (Builtin.Frozenset.unchanged id b pb)) Q E s):wpAny (model prog w) A (Builtin.Frozenset.updateFrom id r (.ref b)) Q E s:=by
 unfold Builtin.Frozenset.updateFrom;refine wpAny_bind (Zf7 y.st.type ?_);rw [if_pos rfl];refine wpAny_bind (wpAny_pure ?_);unfold Builtin.Frozenset.merge;exact wpAny_bind (wpAny_setEpoch_of y.ho y.hd y.hf h)
theorem ZfT {id:String}{b:Addr}{ob:Obj}{eb:Array (Int × Value)}{pb:Nat}{tb:SetTable}{Q:Unit→Shared→Prop}(y:SA prog w s.heap b ob eb pb tb)(q:Q () s):wpAny (model prog w) A (Builtin.Frozenset.unchanged id b pb) Q E s:=by unfold Builtin.Frozenset.unchanged;refine wpAny_bind (wpAny_setEpoch_of y.ho y.hd y.hf ?_);rw [if_neg (by rw [bne_self_eq_false];decide)];exact wpAny_pure q
theorem or_set {a b:Addr}{ks ls:List Int}{Q:Value→Shared→Prop}(hA:ST prog w s.heap a ks)(hB:ST prog w s.heap b ls)(ne:a≠b)(hb:ks.length+ls.length+1<scanBound)
   (q:∀ h' ms,ST prog w h' s.heap.objs.size ms→(∀ z,z∈ms↔z∈ks∨z∈ls)→(∀ c o,c<s.heap.objs.size→s.heap.get? c=some o→h'.get? c=some o)→Q (.ref s.heap.objs.size) { s with heap:=h' }) :
   wpAny (model prog w) A (binaryOp .BitOr (.ref a) (.ref b)) Q E s:=by
 refine wpAny_binaryOp_same hA.type hB.type fills_or ZiU (wpAny_call_entry ZiU hA.type entry_or ?_ (args_or _ _));have tA:=hA.type;have tB:=hB.type;unfold Builtin.«frozenset.__or__»;show wpAny (model prog w) A.in1 (do
   let (self,other) ← Builtin.Frozenset.slot1 "__or__" ⟨[.ref a,.ref b],[]⟩
   let (l,r):=if false then (other,self) else (self,other)
   if !(← Builtin.Frozenset.isAnySet l <&&> Builtin.Frozenset.isAnySet r) then rule s!"frozenset.{"__or__"}.declined";return ← ret .notImplemented
   ret (← (fun id (l:Addr) (r:Value)=>do
     let result ← Builtin.Frozenset.copyOf l
     if r != .ref l then holding [result] (Builtin.Frozenset.updateFrom id (← Builtin.Frozenset.addrOf result) r)
     return result:String→Addr→Value→Sem Value) s!"frozenset.{"__or__"}" (← Builtin.Frozenset.addrOf l) r)) _ E s
 refine wpAny_bind (m:=Builtin.Frozenset.slot1 "__or__" ⟨[.ref a,.ref b],[]⟩) (wpAny_of_eq (show Builtin.Frozenset.slot1 "__or__" ⟨[.ref a,.ref b],[]⟩=pure (.ref a,.ref b) from by simp [Builtin.Frozenset.slot1,slotArgs]) ?_);dsimp only;rw [if_neg (by decide)];dsimp only;refine wpAny_bind ?_;refine wpAny_bind (Zf7 tA ?_);refine Zf7 tB ?_;rw [if_neg (by decide)];refine wpAny_bind (wpAny_pure ?_);refine wpAny_bind ?_;unfold Builtin.Frozenset.copyOf;refine wpAny_bind (wpAny_bind (base_set tA (wpAny_bind (new_obj (wpAny_bind (wpAny_pure ?_))))));have hE:(s.heap.push (emptyObj w)).get? s.heap.objs.size=some (emptyObj w):=Heap.get?_push_size _ rfl;have x0:SA prog w (s.heap.push (emptyObj w)) s.heap.objs.size (emptyObj w) #[] 0 (.fresh 0 0 (!bt w)):=⟨hE,⟨rfl,rfl,rfl⟩,rfl,(fun x hx=>nomatch hx),(by decide),rfl,Good.fresh _,List.nodup_nil⟩
 have old:∀ c o,c<s.heap.objs.size→s.heap.get? c=some o→(s.heap.push (emptyObj w)).get? c=some o:=fun c o _ e=>Heap.get?_push_of_some _ e
 obtain ⟨oa,ea,pa,ta,xa,rfl⟩:=hA.sa;obtain ⟨ob,eb,pb,tb,xb,rfl⟩:=hB.sa;have la:a<s.heap.objs.size:=Heap.lt_size xa.ho;have lb:b<s.heap.objs.size:=Heap.lt_size xb.ho;have xa0:SA prog w (s.heap.push (emptyObj w)) a oa ea pa ta:=xa.but ((old _ _ la xa.ho).trans xa.ho.symm);have xb0:SA prog w (s.heap.push (emptyObj w)) b ob eb pb tb:=xb.but ((old _ _ lb xb.ho).trans xb.ho.symm);have na:s.heap.objs.size≠a:=Nat.ne_of_gt la;have nb:s.heap.objs.size≠b:=Nat.ne_of_gt lb;have bne:(Value.ref b != Value.ref a)=true:=by rw [bne_iff_ne];exact fun z=>ne (by cases z;rfl)
 rw [List.length_map,List.length_map,Array.length_toList,Array.length_toList] at hb;show wpAny _ _ _ _ _ { s with heap:=s.heap.push (emptyObj w) };by_cases e0:ea.size=0
 · have z0:ea=#[]:=Array.eq_empty_of_size_eq_zero e0
   subst z0;refine wpAny_bind (ZjW (s:={ s with heap:=s.heap.push (emptyObj w) }) na xa0 (wpAny_pure ?_));rw [if_pos bne];refine wpAny_bind (wpAny_pure (wpAny_bind (wpAny_holding (ZeC (s:={ s with heap:=s.heap.push (emptyObj w) }) xb0 (ZfB (s:={ s with heap:=s.heap.push (emptyObj w) }) nb x0 xb0 fun h' ms sb st pm=>wpAny_pure (wpAny_pure ⟨_,rfl,(fun z=>by cases z),q h' ms st (fun z=>?_) fun c o lc e=>?_⟩))))))
   · rw [pm.mem_iff]
     simp
   · rw [sb.2 c (Nat.ne_of_lt lc)]
     exact old c o lc e
 · refine wpAny_bind (ZfB (s:={ s with heap:=s.heap.push (emptyObj w) }) na x0 xa0 fun h1 ks sb st pm=>wpAny_pure ?_)
   rw [if_pos bne];have xb1:SA prog w h1 b ob eb pb tb:=xb0.but (sb.2 b (Ne.symm nb));obtain ⟨o1,e1,p1,t1,x1,rfl⟩:=st.sa;have l1:e1.size=ea.size:=by have:=pm.length_eq;rw [List.length_map,List.length_map,Array.length_toList,Array.length_toList] at this;exact this
   refine wpAny_bind (wpAny_pure (wpAny_bind (wpAny_holding (ZeC (s:={ s with heap:=h1 }) xb1 (Ziq (s:={ s with heap:=h1 }) nb x1 xb1 (by omega) (by omega) (fun s' Q' y z=>ZfT y z) fun h' ms sb2 st2 mm _=>wpAny_pure (wpAny_pure ⟨_,rfl,(fun z=>by cases z),q h' ms st2 (fun z=>?_) fun c o lc e=>?_⟩))))))
   · rw [mm,pm.mem_iff]
   · rw [sb2.2 c (Nat.ne_of_lt lc),sb.2 c (Nat.ne_of_lt lc)]
     exact old c o lc e
end
end SG
namespace L2
open PySem PySem.Spec PyProof.Rows
def tSortOr (K:PySem.W.Frag)(t1 t2:TE):TE:=fun σ H Q=>t1 σ H fun x H1=>∃ (l1:Addr) (ns1:List Int),x=.ref l1∧SqL K H1 l1 (ns1.map V.int)∧ns1.length≤2000∧t2 σ H1 fun y H2=>∃ (l2:Addr) (ns2:List Int),y=.ref l2∧SqL K H2 l2 (ns2.map V.int)∧ns2.length≤2000 ∧
 ∀ (p:Addr) (ks:List Int),H2 p=none→ks.Pairwise (·<·)→(∀ z,z∈ks↔z∈ns1∨z∈ns2)→Q (.ref p) (upd H2 p (.lst (ks.map V.int)))
theorem ZeM {K:PySem.W.Frag}{t1 t2:TE}{σ:St}{H:Hp}{Q:VK}:tSortOr K t1 t2 σ H Q=t1 σ H fun x H1=>∃ (l1:Addr) (ns1:List Int),x=.ref l1∧SqL K H1 l1 (ns1.map V.int)∧ns1.length≤2000∧t2 σ H1 fun y H2=>∃ (l2:Addr) (ns2:List Int),y=.ref l2∧SqL K H2 l2 (ns2.map V.int)∧ns2.length≤2000 ∧
 ∀ (p:Addr) (ks:List Int),H2 p=none→ks.Pairwise (·<·)→(∀ z,z∈ks↔z∈ns1∨z∈ns2)→Q (.ref p) (upd H2 p (.lst (ks.map V.int))):=rfl
section
variable {X:Cx}{e1 e2:Expr}{t1 t2:TE}{p p1 p2 pos q1 q2 bp:Pos}
theorem st_len {prog:Program}{w:World}{h:Heap}{a:Addr}{ks ns:List Int}(st:SG.ST prog w h a ks)(mem:∀ y,y∈ks↔y∈ns):ks.length≤ns.length:=by obtain ⟨_,_,_,_,_,_,_,_,_,_,_,_,nd⟩:=st;exact nd.length_le_of_subset fun y hy=>(mem y).mp hy
theorem Zf9 (K:PySem.W.Frag)(hc:X.calm=true)(hgl:Gl X "sorted")(hml:X.mg "sorted"=none)(hgr:Gl X "set")(hmr:X.mg "set"=none)(he1:PE X e1 t1)(he2:PE X e2 t2)(hK:X.K=K:=by rfl)
   (hs1:starEach [.BinOp (.Call (.Name "set" p1) [e1] [] q1) .BitOr (.Call (.Name "set" p2) [e2] [] q2) bp] X.env=[(false,eval (.BinOp (.Call (.Name "set" p1) [e1] [] q1) .BitOr (.Call (.Name "set" p2) [e2] [] q2) bp) X.env)]:=by rfl) (hs2:starEach [e1] X.env=[(false,eval e1 X.env)]:=by rfl) (hs3:starEach [e2] X.env=[(false,eval e2 X.env)]:=by rfl) :
   PE X (.Call (.Name "sorted" p) [.BinOp (.Call (.Name "set" p1) [e1] [] q1) .BitOr (.Call (.Name "set" p2) [e2] [] q2) bp] [] pos) (tSortOr K t1 t2):=by
 subst hK;intro pins s σ H Q I h;refine wpAny_Call_Name_kw (ZbR I hgl hml boot_sorted (PyProof.Rows.callWith_builtin1 ?_ hs1 rfl));rw [hs1];show wpAny _ _ (spliced ((false,eval (.BinOp (.Call (.Name "set" p1) [e1] [] q1) .BitOr (.Call (.Name "set" p2) [e2] [] q2) bp) X.env)::backTo pos [])) _ _ s;refine Calls.spliced_cons (wpAny_BinOp ?_);refine wpAny_Call_Name_kw (ZbR I hgr hmr ZgX (PyProof.Rows.callWith_type1 ?_ hs2 rfl));rw [hs2];show wpAny _ _ (spliced ((false,eval e1 X.env)::backTo q1 [])) _ _ s;refine Calls.spliced_cons (thn (he1 pins s σ H _ I h) fun u s1 ⟨x,H1,I1,r1,l,ns,ex,hq,hn,q⟩=>?_);subst ex;cases r1;obtain ⟨its,rv,pl,hz⟩:=I1.list hq;have hi:=ZeQ rv;have li:its.length=ns.length:=by rw [← rv.length,List.length_map]
 refine Calls.spliced_nil (SG.call_set (its:=its.toArray) (ns:=ns) (I.ok.hd hc) pl.isList (by simpa using hi) (by rw [List.size_toArray,li];unfold scanBound;omega) fun h2 tk ks st mem old=>?_);have old':∀ b o,s1.heap.get? b=some o→h2.get? b=some o:=fun b o z=>old b o (Heap.lt_size z) z
 have I2:Inv X pins σ H1 { s1 with heap:=h2,toks:=tk }:=I1.kept old';have lk:=st_len st mem;obtain ⟨o,es,ep,t,ho,hx,hd,rest⟩:=st;have nf:H1 s1.heap.objs.size=none:=I1.hok.fresh (Nat.le_refl _);have I3:Inv X ((s1.heap.objs.size,o)::pins) σ H1 { s1 with heap:=h2,toks:=tk }:=I2.pins_of fun b hb=>by
   rcases List.mem_cons.mp hb with rfl | hb
   · exact ⟨ho,nf,Nat.ne_of_gt I1.lt,I1.nofs (Nat.le_refl _),fun v z=>by rw [hd] at z;cases z⟩
   · exact I2.pin b (List.mem_append_right _ hb)
 refine wpAny_Call_Name_kw (ZbR I3 hgr hmr ZgX (PyProof.Rows.callWith_type1 ?_ hs3 rfl));rw [hs3];show wpAny _ _ (spliced ((false,eval e2 X.env)::backTo q2 [])) _ _ _;refine Calls.spliced_cons (thn (he2 _ _ σ H1 _ I3 q) fun u s2 ⟨y,H2,I4,r2,l2,ns2,ey,hq2,hn2,q⟩=>?_);subst ey;cases r2;have ho2:s2.heap.get? s1.heap.objs.size=some o:=(I4.pin (s1.heap.objs.size,o) (List.mem_append_right _ (.head _))).1;have I4':Inv X pins σ H2 s2:=I4.pins_of fun b hb=>I4.pin b (List.mem_append_right _ (.tail _ hb))
 obtain ⟨its2,rv2,pl2,hz2⟩:=I4'.list hq2;have hi2:=ZeQ rv2;have li2:its2.length=ns2.length:=by rw [← rv2.length,List.length_map]
 refine Calls.spliced_nil (SG.call_set (its:=its2.toArray) (ns:=ns2) (I.ok.hd hc) pl2.isList (by simpa using hi2) (by rw [List.size_toArray,li2];unfold scanBound;omega) fun h4 tk4 ks4 st4 mem4 old4=>?_);have old4':∀ b o,s2.heap.get? b=some o→h4.get? b=some o:=fun b o z=>old4 b o (Heap.lt_size z) z
 have I5:Inv X pins σ H2 { s2 with heap:=h4,toks:=tk4 }:=I4'.kept old4';have st1:SG.ST X.prog X.w h4 s1.heap.objs.size ks:=⟨o,es,ep,t,old4' _ _ ho2,hx,hd,rest⟩
 have lk4:=st_len st4 mem4;have ne:s1.heap.objs.size≠s2.heap.objs.size:=Nat.ne_of_lt (Heap.lt_size ho2);refine SG.or_set (s:={ s2 with heap:=h4,toks:=tk4 }) st1 st4 ne (by unfold scanBound;omega) fun h5 ms st5 mem5 old5=>?_
 have old5':∀ b o,h4.get? b=some o→h5.get? b=some o:=fun b o z=>old5 b o (Heap.lt_size z) z
 have I6:Inv X pins σ H2 { s2 with heap:=h5,toks:=tk4 }:=I5.kept old5';have lm:ms.length≤sizeLine:=by obtain ⟨o,es,ep,t,_,_,_,_,hb,_,_,rfl,_⟩:=st5;rw [List.length_map,Array.length_toList];exact fits_of_scanBound hb
 have nd:ms.Nodup:=by obtain ⟨_,_,_,_,_,_,_,_,_,_,_,_,z⟩:=st5;exact z
 refine Calls.spliced_nil (SG.sorted_set (s:={ s2 with heap:=h5,toks:=tk4 }) (I.ok.hd hc) st5 lm fun h6 tk6 d l6 out ns6 e6 old6 le6 at6 hi6 pm6 so6=>?_);have lo:(ns6.map V.int).length≤sizeLine:=by rw [List.length_map,pm6.length_eq];exact lm
 have I7:Inv X pins σ (upd H2 l6 (.lst (ns6.map V.int))) { s2 with heap:=h6,toks:=tk6 }:=I6.laid (t':=tk6) (o:=.lst (ns6.map V.int)) old6 le6 ⟨lo,out.toList,e6,ZcA hi6,by rw [Array.toArray_toList];exact at6⟩;refine ⟨.ref l6,_,I7.redrawn d,rfl,q l6 ns6 (I6.hok.fresh le6) ?_ fun y=>?_⟩
 · have nd6:ns6.Nodup:=pm6.nodup_iff.mpr nd
   exact List.Pairwise.imp₂ (fun a b h1 h2=>by omega) so6 nd6
 · rw [pm6.mem_iff,mem5,mem,mem4]
end
end L2
namespace ZL
open PySem
abbrev ZipH (h:Heap)(z TI TO T:Addr)(b:Bool):Prop :=
 h.get? z=some { cls:=.type "zip",dict:=none,data:=.fields #[rawInt T,.bool b,.bool false,.ref TI,.ref TO],slots:=#[] }
section
variable {prog:Program}{w:World}{A:Around}{E:Value→Shared→Prop}{s:Shared}
theorem alive {M:Model}{a:Addr}{Q:Option Obj→Shared→Prop}(h:Q (s.heap.get? a) s):wpAny M A (loadIfAlive a) Q E s:=fun _ _ _=>h
theorem notFree {z TI TO T:Addr}{b:Bool}{o:Obj}{Q:Bool→Shared→Prop}(hz:ZipH s.heap z TI TO T b)(hT:s.heap.get? T=some o)(q:∀ h',ZipH h' z TI TO T true→Heap.SameBut z s.heap h'→Q false { s with heap:=h' }) :
   wpAny (model prog w) A (Builtin.SmallTypes.ownedTupleIsFree (.ref z)) Q E s:=by
 unfold Builtin.SmallTypes.ownedTupleIsFree;refine wpAny_bind (wpAny_field hz rfl (x:=rawInt T) rfl ?_);show wpAny _ _ (loadIfAlive (T:Int).toNat >>= _) _ _ _;refine wpAny_bind (alive ?_);rw [Int.toNat_natCast,hT];show wpAny _ _ (field (.ref z) 1 >>= _) _ _ _;refine wpAny_bind (wpAny_field hz rfl (x:=.bool b) rfl ?_);cases b
 · refine wpAny_bind (wpAny_setField_rec hz (by simp) fun h1 hz1 hs1=>wpAny_pure (q h1 hz1 hs1))
 · exact wpAny_pure (q s.heap hz (Heap.SameBut.refl ..))
theorem Zjz {z TI TO i1 i2 l1 l2 T:Addr}{k1 k2:Nat}{xs ys:Array Value}{x y:Value}{b:Bool}{o:Obj}{Q:Value→Shared→Prop}(D:ZipApart z TI TO i1 i2 l1 l2)
   (hz:ZipH s.heap z TI TO T b) (hT:s.heap.get? T=some o) (hTI:IsPair s.heap TI (.ref i1) (.ref i2))
   (h1:s.heap.IsListIter i1 l1 k1) (h2:s.heap.IsListIter i2 l2 k2) (hl1:s.heap.IsList l1 xs) (hl2:s.heap.IsList l2 ys) (hx:xs[k1]?=some x) (hy:ys[k2]?=some y)
   (hQ:∀ h',ZipH h' z TI TO T true→h'.IsListIter i1 l1 (k1+1)→h'.IsListIter i2 l2 (k2+1)→IsPair h' s.heap.objs.size x y →
     (∀ c o,c≠z→c≠i1→c≠i2→s.heap.get? c=some o→h'.get? c=some o)→Q (.ref s.heap.objs.size) { s with heap:=h' }) :
   wpAny (model prog w) A (Builtin.«zip.__next__» ⟨[.ref z],[]⟩) (fun fin s'=>∃ v,fin=.done (.ret v)∧Q v s') E s:=by
 show wpAny _ _ (field (.ref z) 2 >>= _) _ _ _;refine wpAny_bind (wpAny_field hz rfl (x:=.bool false) rfl ?_);show wpAny _ _ (field (.ref z) 3 >>= _) _ _ _;refine wpAny_bind (wpAny_field hz rfl (x:=.ref TI) rfl ?_);refine wpAny_bind (wpAny_seqItems hTI rfl ?_);show wpAny _ _ (Builtin.SmallTypes.ownedTupleIsFree (.ref z) >>= _) _ _ _;refine wpAny_bind (notFree hz hT fun h₁ hz₁ hs₁=>?_);rw [if_neg (by decide)];refine wpAny_bind ?_;rw [← Array.forIn_toList];simp only [List.forIn_cons,List.forIn_nil];refine wpAny_bind (wpAny_bind (wpAny_holding ?_));show wpAny _ _ (Builtin.SmallTypes.nextOf (.ref i1) >>= _) _ _ _;refine wpAny_bind (wpAny_nextOf_list_item (h1.extBut hs₁.extBut D.i1z) (hl1.extBut hs₁.extBut D.l1z) hx fun h₂ h1₂ hs₂=>wpAny_pure (wpAny_pure ?_));refine wpAny_bind (wpAny_bind (wpAny_holding ?_));show wpAny _ _ (Builtin.SmallTypes.nextOf (.ref i2) >>= _) _ _ _;refine wpAny_bind (wpAny_nextOf_list_item ((h2.extBut hs₁.extBut D.i2z).extBut hs₂.extBut D.i12.symm) ((hl2.extBut hs₁.extBut D.l2z).extBut hs₂.extBut D.l2i1) hy fun h₃ h2₃ hs₃=>wpAny_pure (wpAny_pure (wpAny_pure ?_)));show wpAny _ _ (newTuple [x,y] >>= _) _ _ _;refine wpAny_bind (wpAny_newTuple (wpAny_pure ⟨_,rfl,?_⟩));have hsz:h₃.objs.size=s.heap.objs.size:=by rw [hs₃.1,hs₂.1,hs₁.1]
 have up:∀ c o,h₃.get? c=some o→(h₃.push { cls:=.type "tuple",data:=.seq #[x,y] }).get? c=some o:=fun c o e=>Heap.get?_push_of_some _ e
 have hT₃:IsPair (h₃.push { cls:=.type "tuple",data:=.seq #[x,y] }) h₃.objs.size x y:=Heap.get?_push_size _ rfl;show Q (.ref h₃.objs.size) _;rw [hsz] at hT₃ ⊢;exact hQ _ (up _ _ (hs₃.extBut _ _ D.i2z.symm (hs₂.extBut _ _ D.i1z.symm hz₁))) ((h1₂.extBut hs₃.extBut D.i12).at fun o e=>up _ o e) (h2₃.at fun o e=>up _ o e) hT₃ fun c o c1 c2 c3 e=>up c o (hs₃.extBut _ _ c3 (hs₂.extBut _ _ c2 (hs₁.extBut _ _ c1 e)))
theorem held_end {z TI TO i1 i2 l1 l2 T:Addr}{k1 k2:Nat}{xs ys:Array Value}{b:Bool}{o:Obj}{Q:Fin→Shared→Prop}(hh:A.handled=none)(D:ZipApart z TI TO i1 i2 l1 l2)
   (hz:ZipH s.heap z TI TO T b) (hT:s.heap.get? T=some o) (hTI:IsPair s.heap TI (.ref i1) (.ref i2))
   (h1:s.heap.IsListIter i1 l1 k1) (h2:s.heap.IsListIter i2 l2 k2) (hl1:s.heap.IsList l1 xs) (hl2:s.heap.IsList l2 ys) (hend:xs[k1]?=none∨ys[k2]?=none)
   (hE:∀ h' e,(∀ c o,c≠z→c≠i1→c≠i2→s.heap.get? c=some o→h'.get? c=some o)→(∃ o,h'.get? e=some o∧o.cls=.type "StopIteration")→E (.ref e) { s with heap:=h' }) :
   wpAny (model prog w) A (Builtin.«zip.__next__» ⟨[.ref z],[]⟩) Q E s:=by
 show wpAny _ _ (field (.ref z) 2 >>= _) _ _ _;refine wpAny_bind (wpAny_field hz rfl (x:=.bool false) rfl ?_);show wpAny _ _ (field (.ref z) 3 >>= _) _ _ _;refine wpAny_bind (wpAny_field hz rfl (x:=.ref TI) rfl ?_);refine wpAny_bind (wpAny_seqItems hTI rfl ?_);show wpAny _ _ (Builtin.SmallTypes.ownedTupleIsFree (.ref z) >>= _) _ _ _;refine wpAny_bind (notFree hz hT fun h₁ hz₁ hs₁=>?_);rw [if_neg (by decide)];refine wpAny_bind ?_;rw [← Array.forIn_toList];simp only [List.forIn_cons,List.forIn_nil];refine wpAny_bind (wpAny_bind (wpAny_holding ?_));show wpAny _ _ (Builtin.SmallTypes.nextOf (.ref i1) >>= _) _ _ _;cases hx:xs[k1]? with
 | none =>
   refine wpAny_bind (wpAny_nextOf_list_end hh (h1.extBut hs₁.extBut D.i1z) (hl1.extBut hs₁.extBut D.l1z) hx fun h₂ e hs₂ he=>?_);exact hE h₂ e (fun c o c1 c2 c3 x=>hs₂ _ _ c2 (hs₁.extBut _ _ c1 x)) he
 | some x =>
   have hy:ys[k2]?=none:=by rcases hend with h | h;rw [hx] at h;cases h;exact h
   refine wpAny_bind (wpAny_nextOf_list_item (h1.extBut hs₁.extBut D.i1z) (hl1.extBut hs₁.extBut D.l1z) hx fun h₂ h1₂ hs₂=>wpAny_pure (wpAny_pure ?_));refine wpAny_bind (wpAny_bind (wpAny_holding ?_));show wpAny _ _ (Builtin.SmallTypes.nextOf (.ref i2) >>= _) _ _ _;refine wpAny_bind (wpAny_nextOf_list_end hh ((h2.extBut hs₁.extBut D.i2z).extBut hs₂.extBut D.i12.symm) ((hl2.extBut hs₁.extBut D.l2z).extBut hs₂.extBut D.l2i1) hy fun h₄ e hs₄ he=>?_);exact hE h₄ e (fun c o c1 c2 c3 x=>hs₄ _ _ c3 (hs₂.extBut _ _ c2 (hs₁.extBut _ _ c1 x))) he
theorem ZjG {z TI TO i1 i2 l1 l2 T:Addr}{k1 k2:Nat}{xs ys:Array Value}{x y:Value}{b:Bool}{o:Obj}{Q:Option Value→Shared→Prop}(D:ZipApart z TI TO i1 i2 l1 l2)
   (hz:ZipH s.heap z TI TO T b) (hT:s.heap.get? T=some o) (hTI:IsPair s.heap TI (.ref i1) (.ref i2))
   (h1:s.heap.IsListIter i1 l1 k1) (h2:s.heap.IsListIter i2 l2 k2) (hl1:s.heap.IsList l1 xs) (hl2:s.heap.IsList l2 ys) (hx:xs[k1]?=some x) (hy:ys[k2]?=some y)
   (hQ:∀ h',ZipH h' z TI TO T true→h'.IsListIter i1 l1 (k1+1)→h'.IsListIter i2 l2 (k2+1)→IsPair h' s.heap.objs.size x y →
     (∀ c o,c≠z→c≠i1→c≠i2→s.heap.get? c=some o→h'.get? c=some o)→Q (some (.ref s.heap.objs.size)) { s with heap:=h' }) :
   wpAny (model prog w) A (pyNext (.ref z)) Q E s:=by
 have hT':s.TypeIs (.ref z) "zip":=⟨_,hz,rfl⟩
 unfold pyNext;exact wpAny_bind (wpAny_attempt (wpAny_callSpecial?_slot (name:=Str.ofString "__next__") hT' F.slot_zip_next
   (wpAny_call_entry F.slot_zip_next hT' F.entry_zip_next
     (Zjz D hz hT hTI h1 h2 hl1 hl2 hx hy fun h' a1 a2 a3 a4 a5=>wpAny_pure (hQ h' a1 a2 a3 a4 a5)) (F.args_zip_next_1 _))))
theorem Zgk {z TI TO i1 i2 l1 l2 T:Addr}{k1 k2:Nat}{xs ys:Array Value}{b:Bool}{o:Obj}{Q:Option Value→Shared→Prop}(hh:A.handled=none)(D:ZipApart z TI TO i1 i2 l1 l2)
   (hz:ZipH s.heap z TI TO T b) (hT:s.heap.get? T=some o) (hTI:IsPair s.heap TI (.ref i1) (.ref i2))
   (h1:s.heap.IsListIter i1 l1 k1) (h2:s.heap.IsListIter i2 l2 k2) (hl1:s.heap.IsList l1 xs) (hl2:s.heap.IsList l2 ys) (hend:xs[k1]?=none∨ys[k2]?=none)
   (hQ:∀ h',(∀ c o,c≠z→c≠i1→c≠i2→s.heap.get? c=some o→h'.get? c=some o)→Q none { s with heap:=h' }):wpAny (model prog w) A (pyNext (.ref z)) Q E s:=by
 have hT':s.TypeIs (.ref z) "zip":=⟨_,hz,rfl⟩
 unfold pyNext;refine wpAny_bind (wpAny_attempt (wpAny_callSpecial?_slot (name:=Str.ofString "__next__") hT' F.slot_zip_next
   (wpAny_call_entry F.slot_zip_next hT' F.entry_zip_next (held_end hh D hz hT hTI h1 h2 hl1 hl2 hend fun h' e hk he=>?_) (F.args_zip_next_1 _))))
 obtain ⟨o,ho,hc⟩:=he;refine wpAny_bind (wpAny_isInstance (T:="StopIteration") (b:=true) ⟨o,ho,hc⟩ isSubtype_stop ?_);exact wpAny_pure (hQ _ hk)
structure ZI (z TI TO i1 i2 l1 l2:Addr)(xs ys:Array Value)(m i:Nat)(Ts:List Addr)(h:Heap):Prop where
 zz:(i=0∧IsZip h z TI TO .none∧∃ a b,IsPair h TO a b)∨(∃ T0 b,Ts[0]?=some T0∧ZipH h z TI TO T0 b)
 ti:IsPair h TI (.ref i1) (.ref i2)
 it1:h.IsListIter i1 l1 i
 it2:h.IsListIter i2 l2 i
 li1:h.IsList l1 xs
 li2:h.IsList l2 ys
 len:Ts.length=i
 nd:Ts.Nodup
 new:∀ T∈Ts,m≤T
 tup:∀ (j:Nat) (T:Addr),Ts[j]?=some T→∃ x y,xs[j]?=some x∧ys[j]?=some y∧IsPair h T x y
theorem ZI.next {z TI TO i1 i2 l1 l2:Addr} {xs ys:Array Value} {m i:Nat} {Ts:List Addr} {Q:Option Value→Shared→Prop} (I:ZI z TI TO i1 i2 l1 l2 xs ys m i Ts s.heap) (D:ZipApart z TI TO i1 i2 l1 l2) (M:∀ c∈[z,TI,TO,i1,i2,l1,l2],c<m) (hm:m≤s.heap.objs.size) (hx:i<xs.size) (hy:i<ys.size)
   (hQ:∀ h',ZI z TI TO i1 i2 l1 l2 xs ys m (i+1) (Ts++[s.heap.objs.size]) h'→(∀ c o,c≠z→c≠TO→c≠i1→c≠i2→s.heap.get? c=some o→h'.get? c=some o)→Q (some (.ref s.heap.objs.size)) { s with heap:=h' }) :
   wpAny (model prog w) A (pyNext (.ref z)) Q E s:=by
 have ge:∀ T∈Ts,∀ c∈[z,TI,TO,i1,i2,l1,l2],T≠c:=fun T hT c hc e=>absurd (M c hc) (Nat.not_lt.mpr (e ▸ I.new T hT))
 have fresh:s.heap.objs.size∉Ts:=fun h=>by
   obtain ⟨j,hj⟩:=List.getElem?_of_mem h;obtain ⟨x,y,_,_,hp⟩:=I.tup j _ hj;exact absurd (Heap.lt_size hp) (Nat.lt_irrefl _)
 have nd:(Ts++[s.heap.objs.size]).Nodup:=by rw [List.nodup_append];exact ⟨I.nd,(by simp),fun a ha b hb e=>fresh (by rw [List.mem_singleton.mp hb] at e;exact e ▸ ha)⟩
 have new:∀ T∈Ts++[s.heap.objs.size],m≤T:=fun T hT=>(List.mem_append.mp hT).elim (I.new T) fun h=>by rw [List.mem_singleton.mp h];exact hm
 have tup:∀ h':Heap,IsPair h' s.heap.objs.size xs[i] ys[i]→(∀ c o,c≠z→c≠TO→c≠i1→c≠i2→s.heap.get? c=some o→h'.get? c=some o)→∀ (j:Nat) (T:Addr),(Ts++[s.heap.objs.size])[j]?=some T→∃ x y,xs[j]?=some x∧ys[j]?=some y∧IsPair h' T x y:=fun h' hp hk j T hj=>by
   by_cases hji:j<Ts.length
   · rw [List.getElem?_append_left hji] at hj
     obtain ⟨x,y,e1,e2,hp'⟩:=I.tup j T hj;have hT:=List.mem_of_getElem? hj;exact ⟨x,y,e1,e2,hk T _ (ge T hT z (by simp)) (ge T hT TO (by simp)) (ge T hT i1 (by simp)) (ge T hT i2 (by simp)) hp'⟩
   · rw [List.getElem?_append_right (Nat.not_lt.mp hji)] at hj
     have hj0:j-Ts.length=0:=by
       rcases Nat.eq_zero_or_pos (j-Ts.length) with e | e
       · exact e
       · rw [List.getElem?_eq_none (by show 1≤j-Ts.length;exact e)] at hj
         cases hj
     rw [hj0] at hj;have eT:s.heap.objs.size=T:=by simpa using hj
     have ej:j=i:=by have:=I.len;omega
     subst eT;subst ej;exact ⟨_,_,Array.getElem?_eq_getElem hx,Array.getElem?_eq_getElem hy,hp⟩
 rcases I.zz with ⟨hi,hz,a,b,hTO⟩ | ⟨T0,b,hT0,hz⟩
 · refine wpAny_pyNext_zip_item D hz I.ti hTO I.it1 I.it2 I.li1 I.li2 (Array.getElem?_eq_getElem hx) (Array.getElem?_eq_getElem hy) fun h' a1 a2 a3 a4 a5 a6 hk=>hQ h' ⟨.inr ⟨s.heap.objs.size,false,?_,a1⟩,hk _ _ D.TIz D.TITO D.TIi1 D.TIi2 I.ti,a3,a4,I.li1.at fun o e=>hk _ o D.l1z D.l1TO D.l1i1 D.l1i2 e,I.li2.at fun o e=>hk _ o D.l2z D.l2TO D.l2i1 D.l2i2 e,by rw [List.length_append,I.len];rfl,nd,new,tup h' a5 hk⟩ hk
   have:Ts=[]:=List.length_eq_zero_iff.mp (I.len.trans hi);rw [this];rfl
 · obtain ⟨x0,y0,_,_,hp0⟩:=I.tup 0 T0 hT0
   refine ZjG D hz hp0 I.ti I.it1 I.it2 I.li1 I.li2 (Array.getElem?_eq_getElem hx) (Array.getElem?_eq_getElem hy) fun h' a1 a3 a4 a5 hk=>hQ h' ⟨.inr ⟨T0,true,?_,a1⟩,hk _ _ D.TIz D.TIi1 D.TIi2 I.ti,a3,a4,I.li1.at fun o e=>hk _ o D.l1z D.l1i1 D.l1i2 e,I.li2.at fun o e=>hk _ o D.l2z D.l2i1 D.l2i2 e,by rw [List.length_append,I.len];rfl,nd,new,tup h' a5 fun c o c1 _ c3 c4 e=>hk c o c1 c3 c4 e⟩ fun c o c1 _ c3 c4 e=>hk c o c1 c3 c4 e
   rw [List.getElem?_append_left (List.getElem?_eq_some_iff.mp hT0).1];exact hT0
theorem ZI.stop {z TI TO i1 i2 l1 l2:Addr}{xs ys:Array Value}{m i:Nat}{Ts:List Addr}{Q:Option Value→Shared→Prop}(hh:A.handled=none)(I:ZI z TI TO i1 i2 l1 l2 xs ys m i Ts s.heap)(D:ZipApart z TI TO i1 i2 l1 l2)(hx:xs.size≤i)
   (hQ:∀ h',(∀ c o,c≠z→c≠TO→c≠i1→c≠i2→s.heap.get? c=some o→h'.get? c=some o)→Q none { s with heap:=h' }) :
   wpAny (model prog w) A (pyNext (.ref z)) Q E s:=by
 rcases I.zz with ⟨hi,hz,a,b,hTO⟩ | ⟨T0,b,hT0,hz⟩
 · exact wpAny_pyNext_zip_end hh D hz I.ti hTO I.it1 I.it2 I.li1 I.li2 (.inl (Array.getElem?_eq_none hx)) hQ
 · obtain ⟨x0,y0,_,_,hp0⟩:=I.tup 0 T0 hT0
   exact Zgk hh D hz hp0 I.ti I.it1 I.it2 I.li1 I.li2 (.inl (Array.getElem?_eq_none hx)) fun h' hk=>hQ h' fun c o c1 _ c3 c4 e=>hk c o c1 c3 c4 e
theorem ZI.but {z TI TO i1 i2 l1 l2 S:Addr}{xs ys:Array Value}{m i:Nat}{Ts:List Addr}{h h':Heap}(I:ZI z TI TO i1 i2 l1 l2 xs ys m i Ts h)(hS:S∉[z,TI,TO,i1,i2,l1,l2])(hT:S<m)(k:∀ c o,c≠S→h.get? c=some o→h'.get? c=some o):ZI z TI TO i1 i2 l1 l2 xs ys m i Ts h':=by
 have ne:∀ c∈[z,TI,TO,i1,i2,l1,l2],c≠S:=fun c hc e=>hS (e ▸ hc)
 refine ⟨?_,k _ _ (ne TI (by simp)) I.ti,I.it1.at fun o e=>k _ o (ne i1 (by simp)) e,I.it2.at fun o e=>k _ o (ne i2 (by simp)) e,I.li1.at fun o e=>k _ o (ne l1 (by simp)) e,I.li2.at fun o e=>k _ o (ne l2 (by simp)) e,I.len,I.nd,I.new,fun j T hj=>?_⟩
 · rcases I.zz with ⟨hi,hz,a,b,hTO⟩ | ⟨T0,b,hT0,hz⟩
   · exact .inl ⟨hi,k _ _ (ne z (by simp)) hz,a,b,k _ _ (ne TO (by simp)) hTO⟩
   · exact .inr ⟨T0,b,hT0,k _ _ (ne z (by simp)) hz⟩
 · obtain ⟨x,y,e1,e2,hp⟩:=I.tup j T hj
   exact ⟨x,y,e1,e2,k _ _ (fun e=>absurd hT (Nat.not_lt.mpr (e ▸ I.new T (List.mem_of_getElem? hj)))) hp⟩
theorem ext_zip {R:Result→Shared→Prop}{z TI TO i1 i2 l1 l2 S:Addr}{xs ys:Array Value}{m:Nat}(hh:A.in1.handled=none)(D:ZipApart z TI TO i1 i2 l1 l2)(M:∀ c∈[z,TI,TO,i1,i2,l1,l2],c<m)(hS:S∉[z,TI,TO,i1,i2,l1,l2])(hSm:S<m)(hxy:xs.size=ys.size)(hn:xs.size≤sizeLine)(res:Value) :
   ∀ (k i:Nat) (s:Shared) (acc:Array Value) (c:Nat) (Ts:List Addr),xs.size-i=k→i≤xs.size→ZI z TI TO i1 i2 l1 l2 xs ys m i Ts s.heap→m≤s.heap.objs.size→s.heap.get? S=some { cls:=.type "list",dict:=none,data:=.seq acc c,slots:=#[] }→acc.toList=Ts.map Value.ref →
   (∀ (h':Heap) (acc':Array Value) (c':Nat) (Ts':List Addr),(∀ b o,b∉[S,z,TO,i1,i2]→s.heap.get? b=some o→h'.get? b=some o)→h'.get? S=some { cls:=.type "list",dict:=none,data:=.seq acc' c',slots:=#[] }→acc'.toList=Ts'.map Value.ref→Ts'.length=xs.size→Ts'.Nodup→(∀ T∈Ts',m≤T)→(∀ (j:Nat) (T:Addr),Ts'[j]?=some T→∃ x y,xs[j]?=some x∧ys[j]?=some y∧IsPair h' T x y)→R (.ok (.ret res)) { s with heap:=h' }) →
   codeAny (model prog w) A (.builtin "list.extend.loop" ⟨[.ref S,.ref z,res],[]⟩) R s:=by
 have nS:∀ c∈[z,TI,TO,i1,i2,l1,l2],c≠S:=fun c hc e=>hS (e ▸ hc)
 intro k;induction k with
 | zero =>
   intro i s acc c Ts hk hi st hm hA ha hR;have hin:i=xs.size:=by omega
   subst hin;refine codeAny_builtin F.entry_extend_loop ?_;rw [Around.under_plainId F.plain_extend_loop _];show wpAny _ A.in1 (pyNext (.ref z) >>= _) _ _ s;refine wpAny_bind (st.stop hh D (Nat.le_refl _) fun h' hk=>?_);have ge:∀ T∈Ts,∀ c∈[z,TI,TO,i1,i2,l1,l2],T≠c:=fun T hT c hc e=>absurd (M c hc) (Nat.not_lt.mpr (e ▸ st.new T hT))
   refine wpAny_pure (hR h' acc c Ts (fun b o hb e=>?_) (hk S _ (nS z (by simp)).symm (nS TO (by simp)).symm (nS i1 (by simp)).symm (nS i2 (by simp)).symm hA) ha st.len st.nd st.new fun j T hj=>?_)
   · simp only [List.mem_cons,List.not_mem_nil,or_false,not_or] at hb
     exact hk b o hb.2.1 hb.2.2.1 hb.2.2.2.1 hb.2.2.2.2 e
   · obtain ⟨x,y,e1,e2,hp⟩:=st.tup j T hj
     have hT:=List.mem_of_getElem? hj;exact ⟨x,y,e1,e2,hk T _ (ge T hT z (by simp)) (ge T hT TO (by simp)) (ge T hT i1 (by simp)) (ge T hT i2 (by simp)) hp⟩
 | succ k ih =>
   intro i s acc c Ts hk hi st hm hA ha hR;have hlt:i<xs.size:=by omega
   refine codeAny_builtin F.entry_extend_loop ?_;rw [Around.under_plainId F.plain_extend_loop _];show wpAny _ A.in1 (pyNext (.ref z) >>= _) _ _ s;refine wpAny_bind (st.next D M hm hlt (hxy ▸ hlt) fun h1 st1 hk1=>?_);have hA1:=hk1 S _ (nS z (by simp)).symm (nS TO (by simp)).symm (nS i1 (by simp)).symm (nS i2 (by simp)).symm hA;have sz:acc.size=i:=by rw [← Array.length_toList,ha,List.length_map,st.len]
   show wpAny _ A.in1 (updateSeq S (·.push (.ref s.heap.objs.size)) >>= _) _ _ _;refine wpAny_bind ?_;have oth:∀ b o,b≠S→h1.get? b=some o→(h1.update S (Obj.mapSeq (·.push (Value.ref s.heap.objs.size)))).get? b=some o:=fun b o hb e=>(Heap.get?_update_other _ _ (Ne.symm hb)).trans e
   have hm1:m≤(h1.update S (Obj.mapSeq (·.push (Value.ref s.heap.objs.size)))).objs.size:=by have:=(Heap.SameBut.update h1 S (Obj.mapSeq (·.push (Value.ref s.heap.objs.size)))).1;rw [this];obtain ⟨x,y,_,_,hp⟩:=st1.tup i s.heap.objs.size (by rw [List.getElem?_append_right (by rw [st.len];exact Nat.le_refl _),st.len,Nat.sub_self];rfl);exact Nat.le_trans hm (Nat.le_of_lt (Heap.lt_size hp))
   refine wpAny_updateSeq hA1 rfl (wpAny_pure ⟨plainId_quiet F.plain_extend_loop _,ih (i+1) { s with heap:=h1.update S (Obj.mapSeq (·.push (Value.ref s.heap.objs.size))) } (acc.push (.ref s.heap.objs.size)) _ (Ts++[s.heap.objs.size]) (by omega) hlt (st1.but hS hSm oth) hm1 (Heap.get?_update_self _ hA1 rfl) (by rw [Array.toList_push,ha,List.map_append];rfl) fun h' acc' c' Ts' hk' b1 b2 b3 b4 b5 b6=>?_⟩)
     (by rw [sz];omega) (by show (acc.push _).size≤sizeLine+1;rw [Array.size_push,sz];omega)
   refine hR h' acc' c' Ts' (fun b o hb e=>hk' b o hb (oth b o (fun z=>hb (by rw [z];exact List.mem_cons_self)) (hk1 b o ?_ ?_ ?_ ?_ e))) b1 b2 b3 b4 b5 b6
   all_goals (simp only [List.mem_cons,List.not_mem_nil,or_false,not_or] at hb)
   · exact hb.2.1
   · exact hb.2.2.1
   · exact hb.2.2.2.1
   · exact hb.2.2.2.2
theorem ZjC:typeLookup (.type "zip") "__len__"=pure none:=by rw [typeLookup_type,builtinLookup_eq_fast];kernel_rfl
theorem ZiA:typeLookup (.type "zip") "__length_hint__"=pure none:=by rw [typeLookup_type,builtinLookup_eq_fast];kernel_rfl
theorem call_list_zip {z TI TO i1 i2 l1 l2:Addr}{xs ys:Array Value}{a b:Value}{Q:Value→Shared→Prop}(hh:A.handled=none)(D:ZipApart z TI TO i1 i2 l1 l2)(hxy:xs.size=ys.size)(hn:xs.size≤sizeLine)
   (hz:IsZip s.heap z TI TO .none) (hTI:IsPair s.heap TI (.ref i1) (.ref i2)) (hTO:IsPair s.heap TO a b) (h1:s.heap.IsListIter i1 l1 0) (h2:s.heap.IsListIter i2 l2 0) (hl1:s.heap.IsList l1 xs) (hl2:s.heap.IsList l2 ys)
   (hQ:∀ (h':Heap) (acc':Array Value) (c':Nat) (Ts:List Addr),(∀ b o,b∉[z,TO,i1,i2]→s.heap.get? b=some o→h'.get? b=some o)→h'.get? s.heap.objs.size=some { cls:=.type "list",dict:=none,data:=.seq acc' c',slots:=#[] }→acc'.toList=Ts.map Value.ref→Ts.length=xs.size→Ts.Nodup→(∀ T∈Ts,s.heap.objs.size<T)→(∀ (j:Nat) (T:Addr),Ts[j]?=some T→∃ x y,xs[j]?=some x∧ys[j]?=some y∧IsPair h' T x y)→Q (.ref s.heap.objs.size) { s with heap:=h' }) :
   wpAny (model prog w) A (call (.type "list") [.ref z]) Q E s:=by
 have lt:∀ {c o},s.heap.get? c=some o→c<s.heap.objs.size:=fun e=>Heap.lt_size e
 have M:∀ c∈[z,TI,TO,i1,i2,l1,l2],c<s.heap.objs.size:=by
   intro c hc;simp only [List.mem_cons,List.not_mem_nil,or_false] at hc;rcases hc with rfl | rfl | rfl | rfl | rfl | rfl | rfl
   · exact lt hz
   · exact lt hTI
   · exact lt hTO
   · obtain ⟨_,e,_⟩:=h1;exact lt e
   · obtain ⟨_,e,_⟩:=h2;exact lt e
   · obtain ⟨_,e,_⟩:=hl1;exact lt e
   · obtain ⟨_,e,_⟩:=hl2;exact lt e
 refine callType_codes (Q₁:=fun obj s₁=>obj=.ref s.heap.objs.size∧s₁={ s with heap:=s.heap.push { cls:=.type "list",data:=.seq #[] } }) PySem.F.called_list (PySem.F.typeCall_list_1 _) PySem.F.entry_list_init
   (code_list_new _ ⟨rfl,rfl⟩) fun obj s₁ h₁=>?_
 obtain ⟨rfl,rfl⟩:=h₁;have hS:(s.heap.push { cls:=.type "list",data:=.seq #[] }).get? s.heap.objs.size=some { cls:=.type "list",data:=.seq #[] }:=Heap.get?_push_size _ rfl;refine ⟨⟨_,hS,rfl⟩,PySem.F.args_list_init_2 _ _,?_⟩;have pk:∀ b o,s.heap.get? b=some o→(s.heap.push { cls:=.type "list",data:=.seq #[] }).get? b=some o:=fun b o e=>Heap.get?_push_of_some _ e
 have I0:ZI z TI TO i1 i2 l1 l2 xs ys (s.heap.objs.size+1) 0 [] (s.heap.push { cls:=.type "list",data:=.seq #[] }):=⟨.inl ⟨rfl,pk _ _ hz,a,b,pk _ _ hTO⟩,pk _ _ hTI,h1.at fun o e=>pk _ o e,h2.at fun o e=>pk _ o e,hl1.at fun o e=>pk _ o e,hl2.at fun o e=>pk _ o e,rfl,List.nodup_nil,(fun T h=>nomatch h),fun j T h=>by simp at h⟩
 have hszp:(s.heap.push { cls:=.type "list",data:=.seq #[] }).objs.size=s.heap.objs.size+1:=Heap.size_push ..;have hSf:s.heap.objs.size∉[z,TI,TO,i1,i2,l1,l2]:=fun hc=>Nat.lt_irrefl _ (M _ hc)
 have M1:∀ c∈[z,TI,TO,i1,i2,l1,l2],c<s.heap.objs.size+1:=fun c hc=>Nat.lt_succ_of_lt (M c hc)
 have hQ':∀ (h':Heap) (acc':Array Value) (c':Nat) (Ts:List Addr),(∀ b o,b∉[s.heap.objs.size,z,TO,i1,i2]→(s.heap.push { cls:=.type "list",data:=.seq #[] }).get? b=some o→h'.get? b=some o)→h'.get? s.heap.objs.size=some { cls:=.type "list",dict:=none,data:=.seq acc' c',slots:=#[] }→acc'.toList=Ts.map Value.ref→Ts.length=xs.size→Ts.Nodup→(∀ T∈Ts,s.heap.objs.size+1≤T)→(∀ (j:Nat) (T:Addr),Ts[j]?=some T→∃ x y,xs[j]?=some x∧ys[j]?=some y∧IsPair h' T x y)→Q (.ref s.heap.objs.size) { s with heap:=h' }:=fun h' acc' c' Ts k b1 b2 b3 b4 b5 b6=>hQ h' acc' c' Ts (fun c o hc e=>k c o (fun hm=>(List.mem_cons.mp hm).elim (fun z=>absurd (lt e) (by rw [z];exact Nat.lt_irrefl _)) hc) (pk c o e)) b1 b2 b3 b4 (fun T hT=>b5 T hT) b6
 clear hQ;generalize hSe:s.heap.objs.size=S at *;generalize s.heap.push { cls:=.type "list",data:=.seq #[] }=h0 at *;have nS:∀ c∈[z,TI,TO,i1,i2,l1,l2],c≠S:=fun c hc e=>hSf (e ▸ hc)
 have hzz:IsZip h0 z TI TO .none:=by
   rcases I0.zz with ⟨_,h,_⟩ | ⟨T0,_,h,_⟩
   · exact h
   · simp at h
 show wpAny _ _ (do let old ← Builtin.List.listItems (.ref S);Builtin.List.listUpdate (.ref S) (fun _=>#[]);letGo old.toList.reverse;Builtin.List.listExtendWith (.ref S) (.ref z) .none) _ _ _;refine wpAny_bind ?_;unfold Builtin.List.listItems;refine wpAny_bind (wpAny_seqItems hS rfl (wpAny_pure ?_));show wpAny _ _ (updateSeq S (fun _=>#[]) >>= fun _=>letGo (#[]:Array Value).toList.reverse >>= fun _=>Builtin.List.listExtendWith (.ref S) (.ref z) .none) _ _ _;refine wpAny_bind (wpAny_updateSeq hS rfl ?_);have hS₂:=Heap.get?_update_self (Obj.mapSeq (fun _=>(#[]:Array Value))) hS rfl;have oth:∀ b o,b≠S→h0.get? b=some o→(h0.update S (Obj.mapSeq (fun _=>(#[]:Array Value)))).get? b=some o:=fun b o hb e=>(Heap.get?_update_other _ _ (Ne.symm hb)).trans e
 have sz1:=(Heap.SameBut.update h0 S (Obj.mapSeq (fun _=>(#[]:Array Value)))).1;generalize h0.update S (Obj.mapSeq (fun _=>(#[]:Array Value)))=g1 at hS₂ oth sz1 ⊢;refine wpAny_bind (wpAny_letGo ?_);unfold Builtin.List.listExtendWith;have hTz:Shared.TypeIs { s with heap:=g1 } (.ref z) "zip":=⟨_,oth _ _ (nS z (by simp)) hzz,rfl⟩
 refine wpAny_bind (wpAny_typeOf (T:="zip") hTz ?_);have e1:Builtin.List.listSameRef (.ref S) (.ref z)=false:=by simp [Builtin.List.listSameRef,(nS z (by simp)).symm]
 rw [if_neg (by rw [e1];decide)];refine wpAny_bind (wpAny_pyIter_zip (oth _ _ (nS z (by simp)) hzz) ?_);refine wpAny_bind (wpAny_holding ?_);unfold Builtin.List.listLengthHint;refine wpAny_bind (wpAny_specialOf hTz ZjC ?_);show wpAny _ _ (specialOf (Value.ref z) (Str.ofString "__length_hint__") >>= _) _ _ _;refine wpAny_bind (wpAny_specialOf hTz ZiA ?_);refine wpAny_pure ?_;show wpAny _ _ (rule "list.extend.makes-room" >>= fun _=>Builtin.List.listTouch (.ref S) >>= fun _=>again (.builtin "list.extend.loop" ⟨[.ref S,.ref z,.none],[]⟩)) _ _ _;refine wpAny_bind (wpAny_rule (wpAny_bind ?_));show wpAny _ _ (updateSeq S (·.push .none) >>= fun _=>updateSeq S (·.pop)) _ _ _;refine wpAny_bind (wpAny_updateSeq hS₂ rfl ?_);have hS₃:=Heap.get?_update_self (Obj.mapSeq (·.push Value.none)) hS₂ rfl;refine wpAny_updateSeq (hz:=by seq_fits) hS₃ rfl ?_;have hS₄:=Heap.get?_update_self (Obj.mapSeq (·.pop)) hS₃ rfl;have oth2:∀ b o,b≠S→h0.get? b=some o→((g1.update S (Obj.mapSeq (·.push Value.none))).update S (Obj.mapSeq (·.pop))).get? b=some o :=
   fun b o hb e=>(Heap.get?_update_other _ _ (Ne.symm hb)).trans ((Heap.get?_update_other _ _ (Ne.symm hb)).trans (oth b o hb e))
 have sz2:((g1.update S (Obj.mapSeq (·.push Value.none))).update S (Obj.mapSeq (·.pop))).objs.size=S+1:=by rw [(Heap.SameBut.update _ S (Obj.mapSeq (·.pop))).1,(Heap.SameBut.update g1 S (Obj.mapSeq (·.push Value.none))).1,sz1,hszp]
 refine wpAny_pure ⟨plainId_quiet F.plain_extend_loop _,ext_zip (by exact hh) D M1 hSf (Nat.lt_succ_self _) hxy hn .none xs.size 0 { s with heap:=(g1.update S (Obj.mapSeq (·.push Value.none))).update S (Obj.mapSeq (·.pop)) } #[] _ [] rfl (Nat.zero_le _) (I0.but hSf (Nat.lt_succ_self _) oth2) (Nat.le_of_eq sz2.symm) hS₄ rfl fun h' acc' c' Ts k b1 b2 b3 b4 b5 b6=>⟨rfl,hQ' h' acc' c' Ts (fun b o hb e=>k b o hb (oth2 b o (fun z=>hb (by rw [z];exact List.mem_cons_self)) e)) b1 b2 b3 b4 b5 b6⟩⟩
end
end ZL
namespace L2
open PySem PySem.Spec PyProof.Rows
section
variable {X:Cx}{pins:List (Addr × Obj)}{σ:St}{H:Hp}{s:Shared}{h':Heap}
theorem Inv.grownZ {H':Hp}{t':Nat}(I:Inv X pins σ H s)(k:∀ b u,s.heap.get? b=some u→h'.get? b=some u)(hH:∀ b,b<s.heap.objs.size→H' b=H b)(ok:HOk X.prog X.w H' h'):Inv X pins σ H' { s with heap:=h',toks:=t' } :=
 I.un ⟨fun b o e _ _ _=>k b o e,fun b o e _ _ _=>⟨o.slots,k b o e⟩,fun b o e n _=>by rw [hH b (Heap.lt_size e)];exact n,fun b o e _=>⟨o,k b o e⟩,fun b xs e=>by rw [hH b (I.hok.lt e)];exact e,fun b o u e=>by rw [hH b (I.hok.lt e)];exact e,fun b ps e=>⟨#[],by rw [hH b (I.hok.lt e),e];simp⟩⟩ ok
end
def PrOf (H:Hp)(us:List V)(ps:List (V × V)):Prop:=Paired (fun v p=>∃ t:Addr,v=.ref t∧H t=some (.tup [p.1,p.2])) us ps
def lay (L:List (Addr × HO))(H:Hp):Hp:=fun b=>match L.lookup b with
 | some o=>some o
 | none=>H b
theorem lk_mem {L:List (Addr × HO)}{b:Addr}{o:HO}(h:L.lookup b=some o):(b,o)∈L:=by
 induction L with
 | nil=>cases h
 | cons p L ih =>
   obtain ⟨a,u⟩:=p;rw [List.lookup_cons] at h;by_cases e:b=a
   · subst e
     rw [BEq.rfl] at h;cases h;exact .head _
   · rw [beq_false_of_ne e] at h
     exact .tail _ (ih h)
theorem lay_old {L:List (Addr × HO)}{H:Hp}{b:Addr}(h:∀ p∈L,p.1≠b):lay L H b=H b:=by
 unfold lay;have:L.lookup b=none:=by
   cases e:L.lookup b with
   | none=>rfl
   | some o=>exact absurd (show ((b,o):Addr × HO).1=b from rfl) (h (b,o) (lk_mem e))
 rw [this]
theorem Zhv {L:List (Addr × HO)}{H:Hp}{b:Addr}{o:HO}:lay ((b,o)::L) H b=some o:=by unfold lay;rw [List.lookup_cons,BEq.rfl]
theorem Zht {L:List (Addr × HO)}{H:Hp}{a b:Addr}{o:HO}(h:b≠a):lay ((a,o)::L) H b=lay L H b:=by unfold lay;rw [List.lookup_cons,beq_false_of_ne h]
theorem Zjy {L:List (Addr × HO)}{H:Hp}{b:Addr}{o:HO}(h:lay L H b=some o):(b,o)∈L∨((∀ p∈L,p.1≠b)∧H b=some o):=by
 unfold lay at h;cases e:L.lookup b with
 | none =>
   rw [e] at h;refine .inr ⟨fun p hp z=>?_,h⟩;have:=List.lookup_eq_none_iff.mp e p hp;rw [z] at this;simp at this
 | some u =>
   rw [e] at h;obtain rfl:u=o:=Option.some.inj h;exact .inl (lk_mem e)
theorem Zi7 {H:Hp}:∀ {ts:List Addr} {os:List HO},ts.Nodup→ts.length=os.length→∀ (j:Nat) (t:Addr) (o:HO),ts[j]?=some t→os[j]?=some o→lay (ts.zip os) H t=some o
 | [],_,_,_,j,t,o,h,_=>by simp at h
 | _::_,[],_,hl,_,_,_,_,_=>by simp at hl
 | t0::ts,o0::os,nd,hl,0,t,o,h1,h2=>by
   simp only [List.getElem?_cons_zero,Option.some.injEq] at h1 h2;subst h1 h2;exact Zhv
 | t0::ts,o0::os,nd,hl,j+1,t,o,h1,h2=>by
   rw [List.getElem?_cons_succ] at h1 h2;have n:=List.nodup_cons.mp nd;show lay ((t0,o0)::ts.zip os) H t=_;rw [Zht fun z:t=t0=>n.1 (by rw [← z];exact List.mem_of_getElem? h1)];exact Zi7 n.2 (Nat.succ.inj hl) j t o h1 h2
def tLZip (K:PySem.W.Frag)(ta:TA):TE:=fun σ H Q=>ta σ H fun vs H1=>∃ a b xs ys,vs=[.ref a,.ref b]∧SqL K H1 a xs∧SqL K H1 b ys∧xs.length=ys.length∧∀ (p:Addr) (us:List V) (H2:Hp),Same H1 H2→H1 p=none→H2 p=some (.lst us)→PrOf H2 us (xs.zip ys)→(∀ t,V.ref t∈us→H1 t=none)→Q (.ref p) H2
theorem ZgA {K:PySem.W.Frag}{ta:TA}{σ:St}{H:Hp}{Q:VK}:tLZip K ta σ H Q=ta σ H fun vs H1=>∃ a b xs ys,vs=[.ref a,.ref b]∧SqL K H1 a xs∧SqL K H1 b ys∧xs.length=ys.length∧∀ (p:Addr) (us:List V) (H2:Hp),Same H1 H2→H1 p=none→H2 p=some (.lst us)→PrOf H2 us (xs.zip ys)→(∀ t,V.ref t∈us→H1 t=none)→Q (.ref p) H2:=rfl
theorem ZfI {α β:Type}{F:α→β→Prop}:∀ {us:List α} {ps:List β},us.length=ps.length→(∀ (j:Nat) u p,us[j]?=some u→ps[j]?=some p→F u p)→Paired F us ps
 | [],[],_,_=>.nil
 | [],_::_,h,_=>by simp at h
 | _::_,[],h,_=>by simp at h
 | u::us,p::ps,h,f=>.cons (f 0 u p rfl rfl) (ZfI (Nat.succ.inj h) fun j u' p' h1 h2=>f (j+1) u' p' (by simpa using h1) (by simpa using h2))
theorem Zfk:∀ ts:List Addr,Vals (ts.map V.ref) (ts.map Value.ref)
 | []=>.nil
 | _::ts=>.cons rfl (Zfk ts)
section
variable {X:Cx}{a b:Expr}{ta:TA}{p p' pos pos':Pos}
theorem ZhD (K:PySem.W.Frag) (hc:X.calm=true) (hgl:Gl X "list") (hml:X.mg "list"=none) (hgz:Gl X "zip") (hmz:X.mg "zip"=none) (ha:PA X [a,b] ta) (hK:X.K=K:=by rfl)
   (hs1:starEach [.Call (.Name "zip" p') [a,b] [] pos'] X.env=[(false,eval (.Call (.Name "zip" p') [a,b] [] pos') X.env)]:=by rfl) (hs:starEach [a,b] X.env=[(false,eval a X.env),(false,eval b X.env)]:=by rfl) (hs2:starEach [b] X.env=[(false,eval b X.env)]:=by rfl) :
   PE X (.Call (.Name "list" p) [.Call (.Name "zip" p') [a,b] [] pos'] [] pos) (tLZip K ta):=by
 subst hK;intro pins s σ H Q I h;refine wpAny_Call_Name_kw (ZbR I hgl hml boot_list (PyProof.Rows.callWith_type1 ?_ hs1 rfl));rw [hs1];show wpAny _ _ (spliced ((false,eval (.Call (.Name "zip" p') [a,b] [] pos') X.env)::backTo pos [])) _ _ s;refine Calls.spliced_cons ?_;refine wpAny_Call_Name_kw (ZbR I hgz hmz ZgH (PyProof.Rows.callWith_type1 (thn (ha pos' pins s σ H _ I h) fun us s1 ⟨vs,H1,I1,r1,q1⟩=>?_) (by rw [hs,hs2]) (by rw [hs2];rfl)));obtain ⟨l1,l2,xs,ys,rfl,hx,hy,hxy,q⟩:=q1;cases r1 with
 | cons r rr =>
   cases rr with
   | cons r' rr =>
     cases rr;cases r;cases r';obtain ⟨its,rv,pl1,zx⟩:=I1.list hx;obtain ⟨jts,rw_,pl2,_⟩:=I1.list hy;refine call_zip_2 pl1.isList pl2.isList fun g k1 k2 k3 k4 k5 k6 k7=>?_
     have lt1:l1<s1.heap.objs.size:=by obtain ⟨o,e,_⟩:=pl1.isList;exact Heap.lt_size e
     have lt2:l2<s1.heap.objs.size:=by obtain ⟨o,e,_⟩:=pl2.isList;exact Heap.lt_size e
     have D:ZipApart (s1.heap.objs.size+4) (s1.heap.objs.size+2) (s1.heap.objs.size+3) s1.heap.objs.size (s1.heap.objs.size+1) l1 l2:=by constructor<;>(intro q;simp only [Addr] at *;omega)
     have e1:its.toArray.size=xs.length:=by rw [List.size_toArray,← rv.length]
     have e2:jts.toArray.size=ys.length:=by rw [List.size_toArray,← rw_.length]
     refine Calls.spliced_nil (ZL.call_list_zip (s:={ s1 with heap:=g }) (I.ok.hd hc) D (by rw [e1,e2,hxy]) (by rw [e1];exact zx) k1 k2 k3 k4 k5 (pl1.isList.at fun o e=>k7 _ o e) (pl2.isList.at fun o e=>k7 _ o e) fun h' acc' c' Ts hk hS' hacc hlen nd new tup=>?_);have gs:g.objs.size=s1.heap.objs.size+5:=k6;have keep0:∀ c u,s1.heap.get? c=some u→h'.get? c=some u:=fun c u e=>hk c u (fun hm=>by
       have hlt:c<s1.heap.objs.size:=Heap.lt_size e;simp only [List.mem_cons,List.not_mem_nil,or_false] at hm;simp only [Addr] at *;rcases hm with q | q | q | q<;>omega) (k7 c u e)
     have lz:(xs.zip ys).length=xs.length:=by rw [List.length_zip,← hxy,Nat.min_self]
     have lT:Ts.length=xs.length:=hlen.trans e1;have pos5:∀ q∈(g.objs.size,HO.lst (Ts.map V.ref))::Ts.zip ((xs.zip ys).map fun p=>HO.tup [p.1,p.2]),s1.heap.objs.size≤q.1:=fun q hq=>by
       rcases List.mem_cons.mp hq with e | e
       · subst e
         show s1.heap.objs.size≤g.objs.size;omega
       · obtain ⟨a1,_⟩:=List.of_mem_zip (a:=q.1) (b:=q.2) e
         have h1:g.objs.size<q.1:=new _ a1;exact Nat.le_trans (by rw [gs];exact Nat.le_add_right _ _) (Nat.le_of_lt h1)
     have old:∀ c,c<s1.heap.objs.size→lay ((g.objs.size,HO.lst (Ts.map V.ref))::Ts.zip ((xs.zip ys).map fun p=>HO.tup [p.1,p.2])) H1 c=H1 c:=fun c hc=>lay_old fun q hq e=>by
       have:=pos5 q hq;rw [e] at this;exact absurd hc (Nat.not_lt.mpr this)
     have hok:HOk X.prog X.w (lay ((g.objs.size,HO.lst (Ts.map V.ref))::Ts.zip ((xs.zip ys).map fun p=>HO.tup [p.1,p.2])) H1) h':=fun c o e=>by
       rcases Zjy e with m | ⟨_,e⟩
       · rcases List.mem_cons.mp m with e | m
         · cases e
           refine ⟨by rw [List.length_map,lT];exact zx,acc'.toList,c',by rw [hacc];exact Zfk Ts,hS'⟩
         · obtain ⟨j,hj⟩:=List.getElem?_of_mem m
           obtain ⟨hj1,hj2⟩:=List.getElem?_zip_eq_some.mp hj;obtain ⟨x,y,ex,ey,hp⟩:=tup j c hj1;rw [List.getElem?_map,Option.map_eq_some_iff] at hj2;obtain ⟨⟨x',y'⟩,hz,rfl⟩:=hj2;obtain ⟨hx',hy'⟩:=List.getElem?_zip_eq_some.mp hz;obtain ⟨u,hu,ru⟩:=rv.get hx';obtain ⟨v,hv,rv'⟩:=rw_.get hy';have eu:u=x:=by
             have:its[j]?=some x:=by simpa using ex
             rw [hu] at this;cases this;rfl
           have ev:v=y:=by
             have:jts[j]?=some y:=by simpa using ey
             rw [hv] at this;cases this;rfl
           subst eu ev;exact ⟨by show 2≤sizeLine;decide,[u,v],.cons ru (.cons rv' .nil),_,hp,rfl,_,rfl⟩
       · refine (I1.hok c o e).stay (fun d v _ q=>keep0 d v q) (fun d q=>?_) fun d xs q=>?_
         · rw [old d (I1.hok.lt q)];exact q
         · rw [old d (I1.hok.lt q)];exact q
     have I2:=I1.grownZ (t':=s1.toks) keep0 old hok;refine ⟨.ref g.objs.size,_,I2,rfl,q g.objs.size (Ts.map V.ref) _ (fun d u e=>by rw [old d (I1.hok.lt e)];exact e) (I1.hok.fresh (by show s1.heap.objs.size≤g.objs.size;omega)) Zhv (ZfI (by rw [List.length_map,lT,lz]) fun j u pr h1 h2=>?_) fun t ht=>?_⟩
     · rw [List.getElem?_map,Option.map_eq_some_iff] at h1
       obtain ⟨T,hT,rfl⟩:=h1;refine ⟨T,rfl,?_⟩;have:=new T (List.mem_of_getElem? hT);rw [Zht fun z=>by rw [z] at this;exact Nat.lt_irrefl _ this];exact Zi7 nd (by rw [List.length_map,lz,lT]) j T _ hT (by rw [List.getElem?_map,h2];rfl)
     · obtain ⟨T,hT,e⟩:=List.mem_map.mp ht
       cases e;have:g.objs.size<t:=new t hT;exact I1.hok.fresh (Nat.le_trans (by rw [gs];exact Nat.le_add_right _ _) (Nat.le_of_lt this))
end
end L2
namespace L2
open PySem PySem.Spec PyProof.Rows
section
variable {X:Cx}
theorem ZjM:bootBuiltins "sum"=some (.builtin "sum"):=by decide +kernel
def rSum (K:PySem.W.Frag):List V→Hp→VK→Prop:=fun xs H Q=>∃ (p:Addr) (ns:List Int),xs=[.ref p]∧SqL K H p (ns.map V.int)∧Q (.int ns.sum) H
theorem Zje {K:PySem.W.Frag}{xs:List V}{H:Hp}{Q:VK}:rSum K xs H Q=∃ (p:Addr) (ns:List Int),xs=[.ref p]∧SqL K H p (ns.map V.int)∧Q (.int ns.sum) H:=rfl
theorem Zhq (ns:List Int):∀ j,j≤ns.length→preSum (fun i=>ns.getD i 0) j=(ns.take j).sum
 | 0,_=>rfl
 | j+1,h=>by
   have hj:j<ns.length:=by omega
   show preSum _ j+ns.getD j 0=_;rw [Zhq ns j (by omega),List.take_succ,List.getElem?_eq_getElem hj,List.sum_append,List.getD_eq_getElem?_getD,List.getElem?_eq_getElem hj];simp
theorem Zj7 (K:PySem.W.Frag)(hK:X.K=K:=by rfl)(hc:X.calm=true:=by rfl):CallR X (.builtin "sum") (rSum K):=by
 subst hK;intro pins s σ H xs us Q I r h;obtain ⟨p,ns,rfl,hS,q⟩:=h;obtain ⟨u,rfl,ru⟩:=r.one;cases (show u=Value.ref p from ru);obtain ⟨its,vi,pl,hz⟩:=I.list hS;have ne:p≠s.heap.objs.size:=by obtain ⟨o,e,_⟩:=pl.isList;exact Nat.ne_of_lt (Heap.lt_size e)
 have hl:its.length=ns.length:=by have:=vi.length;rw [List.length_map] at this;exact this.symm
 have hb:∀ (i:Nat) (v:Value),its.toArray[i]?=some v→∃ t,v=.int (ns.getD i 0) t:=fun i v e=>by
   have e2:its[i]?=some v:=by simpa using e
   have hi:i<ns.length:=by have:=(List.getElem?_eq_some_iff.mp e2).1;omega
   obtain ⟨u,hu,ru⟩:=vi.get (i:=i) (x:=.int (ns.getD i 0)) (by rw [List.getElem?_map,List.getElem?_eq_getElem hi,List.getD_eq_getElem?_getD,List.getElem?_eq_getElem hi];rfl);rw [hu] at e2;cases e2;exact ru
 refine call_sum_walkG (wpAny_pyIter_list pl.isList ?_);refine ⟨s.heap.objs.size,_,_,_,_,_,fun i=>ns.getD i 0,rfl,Walks.list (A:=X.A.in1) (show X.A.in1.handled=none from I.ok.hd hc) s.heap.objs.size p ne its.toArray,⟨⟨_,Heap.get?_push_size _ rfl,rfl,rfl⟩,pl.isList.push _⟩,fun b hb=>?_,hb,fun h' tk t' hk=>?_⟩
 · obtain ⟨o,e,_⟩:=pl.isList
   have lp:=Heap.lt_size e;have:b=s.heap.objs.size∨b=p:=by simpa using hb
   show b<(s.heap.push _).objs.size;rw [size_push'];rcases this with rfl | rfl
   · exact Nat.lt_succ_self _
   · exact Nat.lt_succ_of_lt lp
 · have e:preSum (fun i=>ns.getD i 0) its.toArray.size=ns.sum:=by
     rw [List.size_toArray,hl,Zhq ns _ (Nat.le_refl _),List.take_length]
   rw [e];refine ⟨.int ns.sum,H,?_,⟨t',rfl⟩,q⟩;exact I.kept (t':=tk) fun b o q2=>hk b o (by
     intro z;have:b=s.heap.objs.size:=by simpa using z
     exact absurd (Heap.lt_size q2) (by rw [this];exact Nat.lt_irrefl _)) (Heap.get?_push_of_some _ q2)
theorem ZjJ {K:PySem.W.Frag}{n:Nat}:gOwn 2 (gTup K n (gCons (gName 0) (gCons (gName 1) gNil))):=by intro v σ H Q h;simp only [ZfP,Ze2,Zen,Zgf] at h ⊢;obtain ⟨a,xs,e1,e2,e3,u,r,e4,u1,r1,e5,e6,q⟩:=h;exact ⟨a,xs,e1,e2,e3,u,r,e4,u1,r1,e5,e6,⟨by simp,by rcases σ with _ | ⟨_,_ | ⟨_,_⟩⟩<;>simp⟩,q⟩
end
end L2
namespace My
open PySem L2 BM PyProof.Rows
def top (i:Nat):Stmt:=PySem.Challenge.pw_runmarks_k36_whole_joins_undone.main.body.getD i (.Pass ⟨0,0,0,0⟩)
abbrev Zc2:Stmt:=top 7
theorem ZhO:FnScope ["thing"] ["thing"] (defScope Zc2):=by walk_at "s"
abbrev Zcr:Stmt:=top 8
theorem Zgz:FnScope ["place"] ["place"] (defScope Zcr):=by walk_at "s"
abbrev Zbx:Stmt:=top 9
theorem ZdA:FnScope ["word"] ["word"] (defScope Zbx):=by walk_at "s"
abbrev ZdN:Stmt:=top 10
theorem sc_counted:FnScope ["word","by_two","by_four","by_eight","by_sixteen"] ["word"] (defScope ZdN):=by walk_at "s"
abbrev Zcy:Stmt:=top 11
theorem Zf6:FnScope ["word"] ["word"] (defScope Zcy):=by walk_at "s"
abbrev ZcX:Stmt:=top 12
theorem Zg7:FnScope ["word"] ["word"] (defScope ZcX):=by walk_at "s"
abbrev Zcp:Stmt:=top 13
theorem Zgm:FnScope ["first","last"] ["first","last"] (defScope Zcp):=by walk_at "s"
abbrev ZdR:Stmt:=top 14
theorem sc_word_of:FnScope ["places","word","place"] ["places"] (defScope ZdR):=by walk_at "s"
abbrev Zco:Stmt:=top 15
theorem sc_places_of:FnScope ["word","places"] ["word"] (defScope Zco):=by walk_at "s"
abbrev ZdM:Stmt:=top 16
theorem sc_runs_of:FnScope ["word","runs","first","behind"] ["word"] (defScope ZdM):=by walk_at "s"
abbrev ZbK:Stmt:=top 17
theorem sc_word_of_runs:FnScope ["runs","word","first","last"] ["runs"] (defScope ZbK):=by walk_at "s"
abbrev Zgc:Stmt:=top 24
theorem sc_sizes:FnScope ["word","begins"] ["word"] (defScope Zgc):=by walk_at "s"
abbrev Zh6:Stmt:=top 25
theorem sc_kept:FnScope ["word","as_list","as_bits","as_runs"] ["word"] (defScope Zh6):=by walk_at "s"
abbrev ZeI:Stmt:=top 27
theorem sc_halved:FnScope ["many","goes_on","low","high","looks","at"] ["many","goes_on"] (defScope ZeI):=by walk_at "s"
abbrev Zbp:Stmt:=top 28
theorem ZeR:FnScope ["keys","key"] ["keys","key"] (defScope Zbp):=by walk_at "s"
abbrev ZbH:Stmt:=top 34
theorem Zd6:FnScope ["thing"] ["thing"] (defScope ZbH):=by walk_at "s"
abbrev ZcL:Stmt:=top 36
theorem sc_marks_of:FnScope ["numbers","words","n"] ["numbers"] (defScope ZcL):=by walk_at "s"
abbrev Zc0:Stmt:=top 37
theorem ZhE:FnScope ["words"] ["words"] (defScope Zc0):=by walk_at "s"
abbrev ZcV:Stmt:=top 38
theorem sc_gathered:FnScope ["pairs","made","key","stretch"] ["pairs"] (defScope ZcV):=by walk_at "s"
abbrev ZbE:Stmt:=top 40
theorem Zd5:FnScope ["one","other"] ["one","other"] (defScope ZbE):=by walk_at "s"
abbrev ZeJ:Stmt:=top 41
theorem ZjU:FnScope ["one","other"] ["one","other"] (defScope ZeJ):=by walk_at "s"
abbrev ZeT:Stmt:=top 42
theorem Zj3:FnScope ["one","other"] ["one","other"] (defScope ZeT):=by walk_at "s"
abbrev ZhZ:Stmt:=top 43
theorem sc_less:FnScope ["one","other"] ["one","other"] (defScope ZhZ):=by walk_at "s"
abbrev Zez:Stmt:=top 44
theorem ZjH:FnScope ["one","other"] ["one","other"] (defScope Zez):=by walk_at "s"
abbrev ZeO:Stmt:=top 45
theorem Zkp:FnScope ["one","other"] ["one","other"] (defScope ZeO):=by walk_at "s"
abbrev ZdS:Stmt:=top 46
theorem ZiH:FnScope ["one","other"] ["one","other"] (defScope ZdS):=by walk_at "s"
abbrev Zcz:Stmt:=top 48
theorem ZfQ:FnScope ["_law_script","_law_k"] ["_law_script","_law_k"] (defScope Zcz):=by walk_at "s"
abbrev ZdC:Stmt:=top 49
theorem sc_l_mixed:FnScope ["_law_cell","_law_k","_law_number"] ["_law_cell","_law_k"] (defScope ZdC):=by walk_at "s"
abbrev ZdH:Stmt:=top 50
theorem sc_l_piece:FnScope ["_law_number","_law_home","_law_key","_law_at","_law_rest","_law_some"] ["_law_number","_law_home"] (defScope ZdH):=by walk_at "s"
abbrev ZeX:Stmt:=top 51
theorem sc_l_sets:FnScope ["_law_script","_law_home","_law_way","_law_sets_here","_law_k","_law_number","_law_one","_law_cell","_law_at","_law_ones","_law_others"] ["_law_script"] (defScope ZeX):=by walk_at "s"
abbrev Zdy:Stmt:=top 52
theorem Zig:FnScope ["_law_one","_law_other"] ["_law_one","_law_other"] (defScope Zdy):=by walk_at "s"
abbrev ZdD:Stmt:=top 53
theorem ZiC:FnScope ["_law_a","_law_b","_law_c"] ["_law_a","_law_b","_law_c"] (defScope ZdD):=by walk_at "s"
abbrev ZcM:Stmt:=top 54
theorem sc_l_within:FnScope ["_law_one","_law_other","_law_due","_law_found"] ["_law_one","_law_other","_law_due"] (defScope ZcM):=by walk_at "s"
abbrev Zey:Stmt:=top 55
theorem sc_law:FnScope ["_law_script","_law_ones","_law_others","_law_by","_law_a","_law_b","_law_c"] ["_law_script"] (defScope Zey):=by walk_at "s"
abbrev ZaJ:Stmt:=inClass (top 19) 0
abbrev ZaB:Stmt:=inClass (top 19) 1
theorem Zd7:FnScope ["self"] ["self"] (defScope ZaB):=by walk_at "s"
abbrev ZaL:Stmt:=inClass (top 20) 0
theorem ZbZ:FnScope ["self","places"] ["self","places"] (defScope ZaL):=by walk_at "s"
abbrev Za3:Stmt:=inClass (top 20) 1
theorem ZcJ:FnScope ["self"] ["self"] (defScope Za3):=by walk_at "s"
abbrev Za2:Stmt:=inClass (top 20) 2
theorem ZcK:FnScope ["self"] ["self"] (defScope Za2):=by walk_at "s"
abbrev Za0:Stmt:=inClass (top 20) 3
theorem ZcI:FnScope ["self"] ["self"] (defScope Za0):=by walk_at "s"
abbrev ZaN:Stmt:=inClass (top 21) 0
theorem Zcf:FnScope ["self","word"] ["self","word"] (defScope ZaN):=by walk_at "s"
abbrev Zbe:Stmt:=inClass (top 21) 1
theorem ZcR:FnScope ["self"] ["self"] (defScope Zbe):=by walk_at "s"
abbrev Zbh:Stmt:=inClass (top 21) 2
theorem Zc6:FnScope ["self"] ["self"] (defScope Zbh):=by walk_at "s"
abbrev Zbd:Stmt:=inClass (top 21) 3
theorem ZcZ:FnScope ["self"] ["self"] (defScope Zbd):=by walk_at "s"
abbrev ZaQ:Stmt:=inClass (top 22) 0
theorem Zcc:FnScope ["self","runs"] ["self","runs"] (defScope ZaQ):=by walk_at "s"
abbrev Zbj:Stmt:=inClass (top 22) 1
theorem ZcN:FnScope ["self"] ["self"] (defScope Zbj):=by walk_at "s"
abbrev Zbb:Stmt:=inClass (top 22) 2
theorem Zc3:FnScope ["self"] ["self"] (defScope Zbb):=by walk_at "s"
abbrev Zbg:Stmt:=inClass (top 22) 3
theorem ZcY:FnScope ["self"] ["self"] (defScope Zbg):=by walk_at "s"
abbrev Zbl:Stmt:=inClass (top 35) 0
theorem Zdj:FnScope ["self"] ["self"] (defScope Zbl):=by walk_at "s"
abbrev Zch:Stmt:=inClass (top 35) 6
theorem Ze8:FnScope ["self"] ["self"] (defScope Zch):=by walk_at "s"
abbrev Zcb:Stmt:=inClass (top 35) 12
theorem Zfb:FnScope ["self"] ["self"] (defScope Zcb):=by walk_at "s"
abbrev Zb6:Stmt:=inClass (top 35) 14
theorem Ze6:FnScope ["self"] ["self"] (defScope Zb6):=by walk_at "s"
abbrev Zbm:Stmt:=inClass (top 35) 17
theorem Zds:FnScope ["self"] ["self"] (defScope Zbm):=by walk_at "s"
abbrev Za4:Stmt:=inClass (top 35) 18
theorem sc_Marks_stretch_at:FnScope ["self","key","at"] ["self","key"] (defScope Za4):=by walk_at "s"
abbrev Zby:Stmt:=inClass (top 35) 20
theorem sc_Marks_word_at:FnScope ["self","key","stretch"] ["self","key"] (defScope Zby):=by walk_at "s"
abbrev ZbT:Stmt:=inClass (top 35) 23
theorem ZeP:FnScope ["self","key"] ["self","key"] (defScope ZbT):=by walk_at "s"
abbrev ZbC:Stmt:=inClass (top 35) 24
theorem Zd9:FnScope ["self","at","key"] ["self","at","key"] (defScope ZbC):=by walk_at "s"
abbrev Zbn:Stmt:=inClass (top 35) 25
theorem Zda:FnScope ["self","at"] ["self","at"] (defScope Zbn):=by walk_at "s"
abbrev Zb9:Stmt:=inClass (top 35) 26
theorem sc_Marks_keep:FnScope ["self","key","stretch","at","behind","ahead","more","mine"] ["self","key","stretch"] (defScope Zb9):=by walk_at "s"
structure Blt (mg:Str→Option Value):Prop where
 len:mg "len"=none
 range:mg "range"=none
 isi:mg "isinstance"=none
 int:mg "int"=none
 bool:mg "bool"=none
 lst:mg "list"=none
 sorted:mg "sorted"=none
 st:mg "set"=none
 sum:mg "sum"=none
 zip:mg "zip"=none
 ValueError:mg "ValueError"=none
structure CD_ListStretch (K:PySem.W.Frag)(mg:Str→Option Value)(C:Addr):Prop where
 at_:mg "ListStretch"=some (.ref C)
 c:Cls K C
 init:MakerAt K C "ListStretch.__init__" ZaL ["self","places"]
 m_kind:MDefAt K C "kind" "ListStretch.kind" Za3 ["self"]
 m_body:MDefAt K C "body" "ListStretch.body" Za2 ["self"]
 m_word:MDefAt K C "word" "ListStretch.word" Za0 ["self"]
 m_told:MDefAt K C "told" "Stretch.told" ZaJ ["self"]
 m_many:MDefAt K C "many" "Stretch.many" ZaB ["self"]
 n_places:NoAttr K C "places"
structure CD_BitStretch (K:PySem.W.Frag)(mg:Str→Option Value)(C:Addr):Prop where
 at_:mg "BitStretch"=some (.ref C)
 c:Cls K C
 init:MakerAt K C "BitStretch.__init__" ZaN ["self","word"]
 m_kind:MDefAt K C "kind" "BitStretch.kind" Zbe ["self"]
 m_body:MDefAt K C "body" "BitStretch.body" Zbh ["self"]
 m_word:MDefAt K C "word" "BitStretch.word" Zbd ["self"]
 m_told:MDefAt K C "told" "Stretch.told" ZaJ ["self"]
 m_many:MDefAt K C "many" "Stretch.many" ZaB ["self"]
 n_ones:NoAttr K C "ones"
structure CD_RunStretch (K:PySem.W.Frag)(mg:Str→Option Value)(C:Addr):Prop where
 at_:mg "RunStretch"=some (.ref C)
 c:Cls K C
 init:MakerAt K C "RunStretch.__init__" ZaQ ["self","runs"]
 m_kind:MDefAt K C "kind" "RunStretch.kind" Zbj ["self"]
 m_body:MDefAt K C "body" "RunStretch.body" Zbb ["self"]
 m_word:MDefAt K C "word" "RunStretch.word" Zbg ["self"]
 m_told:MDefAt K C "told" "Stretch.told" ZaJ ["self"]
 m_many:MDefAt K C "many" "Stretch.many" ZaB ["self"]
 n_runs:NoAttr K C "runs"
structure CD_Marks (K:PySem.W.Frag)(mg:Str→Option Value)(C:Addr):Prop where
 at_:mg "Marks"=some (.ref C)
 c:Cls K C
 init:MakerAt K C "Marks.__init__" Zbl ["self"]
 m_many:MDefAt K C "many" "Marks.many" Zch ["self"]
 m_told:MDefAt K C "told" "Marks.told" Zcb ["self"]
 m_book:MDefAt K C "book" "Marks.book" Zb6 ["self"]
 m_key_list:MDefAt K C "key_list" "Marks.key_list" Zbm ["self"]
 m_stretch_at:MDefAt K C "stretch_at" "Marks.stretch_at" Za4 ["self","key"]
 m_word_at:MDefAt K C "word_at" "Marks.word_at" Zby ["self","key"]
 m_found:MDefAt K C "found" "Marks.found" ZbT ["self","key"]
 m_stands:MDefAt K C "stands" "Marks.stands" ZbC ["self","at","key"]
 m_ahead_of:MDefAt K C "ahead_of" "Marks.ahead_of" Zbn ["self","at"]
 m_keep:MDefAt K C "keep" "Marks.keep" Zb9 ["self","key","stretch"]
 n_keyed:NoAttr K C "keyed"
 n_aheads:NoAttr K C "aheads"
 n_stretches:NoAttr K C "stretches"
 n_held:NoAttr K C "held"
local macro_rules | `(tactic| walk_at "vc")=>`(tactic| ((try dsimp only [ZeM,ZgA,Zje,Zji,Zhk,Zjq,Zen,Zdh,tC_ap,Ze0,tUn_ap,rI_ap,rI0_ap,rU_ap,rEq_ap,rNe_ap,ZiL,ZgK,Zi2,ZgM,tB_ap,Zjn,tOr_ap,ZiI,ZgF,Zhh,tIf_ap,ZgN,Zgr,Zeo,ZiV,Zgi,tCB_ap,tBM_ap,Zi3,ZiY,ZiK,ZeS,Zev,Zed,Zgx,Zhe,Zg5,Zjt,Zfx,Zd2,Zfn,ZfE,ZgT,Zfq,ZgS,Zfs,ZeZ,Zjc,Zhi,Zjk,Zes,ZfG,ZiO,Zhf,Zem,Zef,ZfP,ZiZ,Ze2,Zgf,ZfV,Zb7,Zde,Zei,L2.start,capSt]); (try simp only [ZeM,ZgA,Zje,Zji,Zhk,Zjq,Zen,Zdh,tC_ap,Ze0,tUn_ap,rI_ap,rI0_ap,rU_ap,rEq_ap,rNe_ap,scal_ii,scal_bb,scal_ss,ZiL,ZgK,Zi2,ZgM,tB_ap,Zjn,tOr_ap,ZiI,ZgF,Zhh,tIf_ap,ZgN,Zgr,Zeo,ZiV,Zgi,tCB_ap,tBM_ap,Zi3,tyV_int,tyV_list,ZiY,ZiK,ZeS,Zev,Zed,Zgx,Zhe,Zg5,Zjt,Zfx,Zd2,Zfn,ZfE,ZgT,Zfq,ZgS,Zfs,ZeZ,rIsi_int,Zj6,Zg3,Zjc,Zhi,Zjk,Zes,ZfG,ZiO,Zhf,Zem,Zef,ZfP,ZiZ,Ze2,Zgf,ZfV,Zb7,Zde,Zei,tyV_str,CDiv,CMul,CPow,CShl,L2.start,capSt,List.map_cons,List.map_nil,List.length_cons,List.length_nil,List.append_nil,List.nil_append,List.cons_append,List.getElem?_cons_zero,List.getElem?_cons_succ,List.set_cons_zero,List.set_cons_succ,List.getD_cons_zero,List.getD_cons_succ,rep0,rep1,rep2,rep3,rep4,rep5,rep6,rep7,rep8,rep9,rep10,rep11,Nat.reduceAdd,Nat.reduceSub,Int.reduceLT,Int.reduceLE,Int.reducePow,Int.reduceNeg,Int.reduceMul,Int.reduceAdd,Int.reduceSub,Int.reduceToNat,Int.reduceEq,reduceIte,Option.some.injEq,V.int.injEq,V.bl.injEq,V.ref.injEq,V.str.injEq,V.ty.injEq,List.cons.injEq,exists_and_left,exists_eq_left,exists_eq_left',exists_eq_right,exists_eq',exists_eq,and_true,true_and,Int.zero_add,decide_eq_true_eq,Bool.not_eq_true',decide_eq_false_iff_not,if_true,if_false,Bool.false_eq_true,Bool.true_eq_false,ite_not,not_true_eq_false,not_false_eq_true,Bool.not_true,Bool.not_false,decide_true,decide_false,or_true,true_or,reduceCtorEq,false_and,and_false,exists_false,false_or,or_false])))
def mixI (c k:Int):Int:=((c*48271+k*7919+104729)%2147483647)*((c*48271+k*7919+104729)%2147483647)%2147483629
def spMixed:Sp:=fun vs H Q _=>∃ c k:Int,vs=[.int c,.int k]∧Q (.int (mixI c k)) H
section
variable {P:Program}{w:World}{K:PySem.W.Frag}{mg:Str→Option Value}{base:Heap}
theorem ok_mixed (d:DefAt K mg "_law_mixed" ZdC ["_law_cell","_law_k"]):FnAt P w K mg base "_law_mixed" ["_law_cell","_law_k"] 1 spMixed:=by
 refine FnAt.of d sc_l_mixed (fun vs H Q E h=>?_) (fun f cdv A outer s H vs Q E hr h=>?_)
 · obtain ⟨c,k,rfl,_⟩:=h
   rfl
 obtain ⟨c,k,rfl,q⟩:=h;refine ⟨_,(Zaj (Zao (i:=2) sc_l_mixed.nd rfl (by walk_at "l") (Zai ZaD (Zai ZaA (Zai ZaA (Zai Zce (pv 0) Zaf) (Zai Zce (pv 1) Zaf)) Zaf) Zaf))
     (Zae (Zam (Zai ZaD (Zai Zce (pv 2) (pv 2)) Zaf)))),?_⟩
 walk_at "vc";have h1:=Int.emod_nonneg (c*48271+k*7919+104729) (b:=2147483647) (by decide);have h2:=Int.emod_lt_of_pos (c*48271+k*7919+104729) (b:=2147483647) (by decide);exact ⟨.inl ⟨by omega,by omega⟩,q⟩
end
def spCell (K:PySem.W.Frag):Sp:=fun vs H Q _=>∃ (a:Addr) (ns:List Int) (k:Nat),vs=[.ref a,.int k]∧SqL K H a (ns.map V.int)∧Q (.int (ns.getD k 0)) H
section
variable {P:Program}{w:World}{K:PySem.W.Frag}{mg:Str→Option Value}{base:Heap}
theorem Ziw (B:Blt mg)(d:DefAt K mg "_law_cell_at" Zcz ["_law_script","_law_k"]):FnAt P w K mg base "_law_cell_at" ["_law_script","_law_k"] 1 (spCell K):=by
 refine FnAt.of d ZfQ (fun vs H Q E h=>?_) (fun f cdv A outer s H vs Q E hr h=>?_)
 · obtain ⟨a,ns,k,rfl,_⟩:=h
   rfl
 obtain ⟨a,ns,k,rfl,hS,q⟩:=h;refine ⟨_,(Zaj (ZaK (Zat ZfM (pv 1) (ZaF (Za7 K) rfl B.len PySem.boot_len (Zaa (pv 0) Zab)) (nomark _)) (Zae (Zam (Zci (ZaU K) (pv 0) (pv 1) (fun _ _=>rfl)))) Zay)
     (Zae (Zam Zaf))),?_⟩
 walk_at "vc";refine ⟨_,.inl hS,?_⟩;rw [List.length_map];by_cases hk:k<ns.length
 · rw [if_pos (by omega)]
   refine ⟨_,hS,.int (ns.getD k 0),Zej ?_,q⟩;rw [List.getElem?_map,List.getElem?_eq_getElem hk,List.getD_eq_getElem?_getD,List.getElem?_eq_getElem hk];rfl
 · rw [if_neg (by omega)]
   have e:ns.getD k 0=0:=by rw [List.getD_eq_getElem?_getD,List.getElem?_eq_none (by omega)];rfl
   rw [e] at q;exact q
end
def halv (lo hi m:Nat):List Nat:=if h:lo<hi then (lo+hi)/2::(if (lo+hi)/2<m then halv ((lo+hi)/2+1) hi m else halv lo ((lo+hi)/2) m) else []
termination_by hi-lo
decreasing_by all_goals omega
def spHalved (P:Program)(w:World)(K:PySem.W.Frag)(mg:Str→Option Value)(base:Heap):Sp:=fun vs H Q _=>∃ (n m:Nat) (f:Addr) (pn:Str) (tb:TE) (cvs:List V) (H0:Hp),vs=[.int n,.ref f]∧m≤n∧n≤1000∧Ready P w K mg base 1 pn tb cvs H0 H f ∧
 (∀ (H':Hp) (i:Nat) (R:VK),Same H H'→i<n→R (.bl (decide (i<m))) H'→tb (some (.int i)::cvs.map some) H' R)∧∀ t l H',Same H H'→H t=none→H l=none→H' t=some (.tup [.int m,.ref l])→H' l=some (.lst (pint (halv 0 n m)))→Q (.ref t) H'
structure HalvI (n m:Nat)(f l:Addr)(H:Hp)(σ:L2.St)(H':Hp):Prop where
 ex:∃ (lo hi:Nat) (pr:List Nat) (v5:Option V),σ=[some (.int n),some (.ref f),some (.int lo),some (.int hi),some (.ref l),v5]∧lo≤m∧m≤hi∧hi≤n∧pr.length+(hi-lo)≤n∧pr++halv lo hi m=halv 0 n m∧H' l=some (.lst (pint pr))
 same:Same H H'
def gapN:L2.St→Nat
 | _::_::some (.int lo)::some (.int hi)::_=>(hi-lo).toNat
 | _=>0
section
variable {P:Program}{w:World}{K:PySem.W.Frag}{mg:Str→Option Value}{base:Heap}
theorem ZjN (d:DefAt K mg "halved" ZeI ["many","goes_on"]):FnAt P w K mg base "halved" ["many","goes_on"] 2 (spHalved P w K mg base):=by
 refine FnAt.of d sc_halved (fun vs H Q E h=>?_) (fun f cdv A outer s H vs Q E hr h=>?_)
 · obtain ⟨n,m,f,pn,tb,cvs,H0,rfl,_⟩:=h
   rfl
 obtain ⟨n,m,fl,pn,tb,cvs,H0,rfl,mn,n1000,⟨o,fd,c',oc,hf,hfd,hc,nf,LA⟩,htb,q⟩:=h;refine ⟨_,(Zaj (Zao (i:=2) sc_halved.nd rfl (by walk_at "l") Zaf)
     (Zaj (Zao (i:=3) sc_halved.nd rfl (by walk_at "l") (pv 0))
     (Zaj (Zao (i:=4) sc_halved.nd rfl (by walk_at "l") (Za1 Zab))
     (Zaj (Zeq PassesOwn.never (Zat ZfM (pv 2) (pv 3) (nomark _)) (Zaj (Zao (i:=5) sc_halved.nd rfl (by walk_at "l") (Zai ZaI (Zai ZaA (pv 2) (pv 3)) Zaf))
     (Zaj (Zdf (ZhX K PySem.F.plainAttrs_list PySem.F.slot_list_append PySem.F.type_list_append ZcH (pv 4) (Zaa (pv 5) Zab)))
     (Zae (ZaK (ZaO (pe_callV (k:=1) 1 (hr.mono (by decide)) (Zaa (pv 5) Zab))) (Zae (Zao (i:=2) sc_halved.nd rfl (by walk_at "l") (Zai ZaA (pv 5) Zaf))) (Zae (Zao (i:=3) sc_halved.nd rfl (by walk_at "l") (pv 5))))))))
     (Zae (Zam (Zb8 (Zaa (pv 2) (Zaa (pv 4) Zab))))))))),?_⟩
 walk_at "vc";refine ⟨Nat.zero_le _,fun l nl=>?_⟩;refine Zeu (HalvI n m fl l H) (fun σ _=>gapN σ) ⟨⟨0,n,[],_,rfl,Nat.zero_le _,mn,Nat.le_refl _,by show 0+(n-0)≤n;omega,rfl,Zac⟩,Same.new nl⟩ ?_ (fun σ H R R' h ⟨v,e,v2,e',i,j,e1,e2,k,e3,q⟩=>⟨v,e,v2,e',i,j,e1,e2,k,e3,h _ _ q⟩);rintro σ H1 ⟨⟨lo,hi,pr,v5,rfl,h1,h2,h3,h4,h5,h6⟩,sm⟩;walk_at "vc";have nlf:fl≠l:=fun z=>by rw [z,nl] at hf;cases hf
 have nlc:c'≠l:=fun z=>by rw [z,nl] at hc;cases hc
 by_cases lt:lo<hi
 · rw [if_pos (by omega)]
   have em:((lo:Int)+(hi:Int))/2=(((lo+hi)/2:Nat):Int):=by omega
   rw [em];have hv:halv lo hi m=(lo+hi)/2::(if (lo+hi)/2<m then halv ((lo+hi)/2+1) hi m else halv lo ((lo+hi)/2) m):=by rw [halv,dif_pos lt]
   rw [hv] at h5;have l1:lo≤(lo+hi)/2:=by omega
   have l2:(lo+hi)/2<hi:=by omega
   generalize (lo+hi)/2=mid at h5 hv l1 l2 ⊢;have s2:Same H (upd H1 l (.lst (pint pr++[V.int mid]))):=sm.put nl;have hl2:upd H1 l (.lst (pint pr++[V.int mid])) l=some (.lst (pint (pr++[mid]))):=by rw [Zac];unfold pint;rw [List.map_append];rfl
   refine ⟨⟨_,SqL.of h6⟩,_,h6,small1000 (by rw [Zal];omega),?_⟩;generalize upd H1 l (.lst (pint pr++[V.int mid]))=H2 at s2 hl2 ⊢;refine ⟨o,s2 _ _ hf,fd,hfd,_,_,LA,s2 _ _ hf,_,rfl,s2 _ _ hf,s2 _ _ hc,htb H2 mid _ s2 (by omega) ⟨_,rfl,?_⟩⟩;by_cases c:mid<m
   · rw [if_pos c] at h5
     rw [decide_eq_true c,if_pos rfl];refine ⟨⟨⟨mid+1,hi,pr++[mid],_,rfl,by omega,h2,h3,by rw [List.length_append];show pr.length+1+_≤_;omega,by rw [List.append_assoc];exact h5,hl2⟩,s2⟩,?_⟩;show (((hi:Int)-((mid:Int)+1)).toNat)<((hi:Int)-(lo:Int)).toNat
     omega
   · rw [if_neg c] at h5
     rw [decide_eq_false c,if_neg (by decide)];refine ⟨⟨⟨lo,mid,pr++[mid],_,rfl,h1,by omega,by omega,by rw [List.length_append];show pr.length+1+_≤_;omega,by rw [List.append_assoc];exact h5,hl2⟩,s2⟩,?_⟩;show (((mid:Int)-(lo:Int)).toNat)<((hi:Int)-(lo:Int)).toNat
     omega
 · rw [if_neg (by omega)]
   refine ⟨by decide,fun t nt=>?_⟩;have e1:lo=m:=by omega
   have hv:halv lo hi m=[]:=by rw [halv,dif_neg lt]
   rw [hv,List.append_nil] at h5;have sT:=Same.new (o:=.tup [V.int lo,V.ref l]) nt;refine q t l _ (sm.trans sT) (sm.free nt) nl (by rw [Zac,e1]) ?_;rw [← h5];exact sT _ _ h6
end
def cnt (p:Int→Bool)(ks:List Int):Nat:=(ks.filter p).length
def Pre (p:Int→Bool)(ks:List Int):Prop:=∀ (i:Nat) (k:Int),ks[i]?=some k→p k=decide (i<cnt p ks)
def spHK (pr:Int→Int→Bool)(df:Int)(c P1:Addr)(qual:Str)(lp:Pos):Sp:=fun vs H Q _=>∃ (a:Addr) (ks:List Int) (y:Int),vs=[.ref a,.int y]∧H a=some (.lst (ks.map V.int))∧ks.length≤1000∧Pre (pr y) ks∧Tb H P1 qual lp ∧
 ∀ t l H',SameT P1 H H'→Tb H' P1 qual lp→H t=none→H l=none→H' t=some (.tup [.int ((cnt (pr y) ks:Int)-df),.ref l])→H' l=some (.lst (pint (halv 0 ks.length (cnt (pr y) ks))))→Q (.ref t) H'
theorem cnt_le (p:Int→Bool)(ks:List Int):cnt p ks≤ks.length:=List.length_filter_le _ _
theorem freeT {H H2:Hp}{Pt b:Addr}{q:Str}{lp:Pos}(s:SameT Pt H H2)(t:Tb H2 Pt q lp)(f:H2 b=none):H b=none:=by
 cases e:H b with
 | none=>rfl
 | some o =>
   by_cases z:b=Pt
   · rw [z] at f
     rcases t with h | ⟨_,_,h,_⟩<;>(rw [f] at h;cases h)
   · rw [s _ _ z e] at f
     cases f
def lpK:Pos:=match defBody Zbp with | [.Return (some (.Call _ [_,.Lambda _ _ _ p] _ _)) _]=>p | _=>⟨0,0,0,0⟩
def qK:Str:=(Str.ofString "halved_keys"++Str.ofString ".<locals>.")++Str.ofString "<lambda>"
theorem get_int {ks:List Int}{i:Nat}(h:i<ks.length):atI (ks.map V.int) (i:Int)=some (.int (ks.getD i 0)):=Zej (by rw [List.getElem?_map,List.getD_eq_getElem?_getD,List.getElem?_eq_getElem h];rfl)
section
variable {P:Program}{w:World}{K:PySem.W.Frag}{mg:Str→Option Value}{base:Heap}{c1 P1 c2 P2:Addr}
theorem ok_hkeys (B:Blt mg)(T_halved_keys:TabIn base mg (c1,P1))(h_halved:∀ base,FnAt P w K mg base "halved" ["many","goes_on"] 2 (spHalved P w K mg base))(d:DefAtC K mg "halved_keys" Zbp ["keys","key"] c1):FnAt P w K mg base "halved_keys" ["keys","key"] 3 (spHK (fun y k=>decide (k<y)) 0 c1 P1 qK lpK):=by
 refine FnAt.ofC d ZeR (fun vs H Q E h=>?_) (fun f A outer s H vs Q E hr h=>?_)
 · obtain ⟨a,ks,y,rfl,_⟩:=h
   rfl
 obtain ⟨a,ks,y,rfl,ha,hl,hp,hT,q⟩:=h;refine ⟨_,(Zae (Zam (Ziz (k:=0) (caps:=["key","keys"]) (ixs:=[1,0]) (lamIn_mk T_halved_keys (Zhu rfl rfl rfl (by decide +kernel) rfl (by decide +kernel) (by decide +kernel) (by decide +kernel)) rfl ⟨rfl,⟨rfl,trivial⟩⟩ ⟨⟨rfl,rfl,_,rfl⟩,⟨⟨rfl,rfl,_,rfl⟩,trivial⟩⟩) rfl (fun _ _ _ _=>rfl) (fun _ _ _ _ _ _ _ _=>(Zbs ZfM (Zci (ZaU K) (pv 2) (pv 0) (fun _ _=>rfl)) (pv 1) (nomark _))) h_halved (hr.mono (by decide)) rfl (ZaF (Za7 K) rfl B.len PySem.boot_len (Zaa (pv 0) Zab))))),?_⟩;walk_at "vc";refine ⟨_,.inl (SqL.of ha),fun j hj=>?_,hT,fun base' fl H2 sT hT2 R=>?_⟩
 · simp only [List.mem_cons,List.not_mem_nil,or_false] at hj
   rcases hj with rfl | rfl
   · exact ⟨_,rfl⟩
   · exact ⟨_,rfl⟩
 rw [List.length_map];have naP:a≠P1:=fun z=>by
   rcases hT with h | ⟨_,_,h,_⟩<;>(rw [← z,ha] at h;cases h)
 have ha2:=sT a _ naP ha;refine ⟨ks.length,cnt (fun k=>decide (k<y)) ks,fl,_,_,_,H,rfl,cnt_le _ _,hl,R,fun H' i R' s' hi hR=>?_,fun t l H' s' f1 f2 h1 h2=>?_⟩
 · walk_at "vc"
   refine ⟨a,rfl,_,SqL.of (s' _ _ ha2),.int (ks.getD i 0),get_int hi,_,rfl,y,rfl,?_⟩;have e:decide (ks.getD i 0<y)=decide (i<cnt (fun k=>decide (k<y)) ks):=hp i _ (by rw [List.getD_eq_getElem?_getD,List.getElem?_eq_getElem hi];rfl);rw [e];exact hR
 · refine q t l H' (fun b o n e=>s' _ _ (sT b o n e)) (hT2.same s') (freeT sT hT2 f1) (freeT sT hT2 f2) ?_ h2
   rw [Int.sub_zero];exact h1
end
def Tups (H:Hp):List V→List (Nat × Nat)→Prop:=Paired fun v r=>∃ t,v=.ref t∧H t=some (.tup [.int (r.1:Nat),.int (r.2:Nat)])
def RunsL (H:Hp)(p:Addr)(rs:List (Nat × Nat)):Prop:=∃ vs,H p=some (.lst vs)∧Tups H vs rs
theorem Tups.same {H H':Hp}{vs:List V}{rs:List (Nat × Nat)}(h:Tups H vs rs)(s:Same H H'):Tups H' vs rs:=Paired.mapP h fun _ _ ⟨t,e,ht⟩=>⟨t,e,s _ _ ht⟩
theorem RunsL.same {H H':Hp}{p:Addr}{rs:List (Nat × Nat)}(h:RunsL H p rs)(s:Same H H'):RunsL H' p rs:=let ⟨vs,e,t⟩:=h;⟨vs,s _ _ e,t.same s⟩
theorem Tups.length {H:Hp}{vs:List V}{rs:List (Nat × Nat)}(h:Tups H vs rs):vs.length=rs.length:=Paired.length h
theorem Tups.snoc {H:Hp}:∀ {vs:List V} {rs:List (Nat × Nat)} {t:Addr} {r:Nat × Nat},Tups H vs rs→H t=some (.tup [.int (r.1:Nat),.int (r.2:Nat)])→Tups H (vs++[.ref t]) (rs++[r])
 | _,_,_,_,.nil,h=>.cons ⟨_,rfl,h⟩ .nil
 | _,_,_,_,.cons r q,h=>.cons r (Tups.snoc q h)
def pairD (r:Nat × Nat):PyData:=.tuple [.int (r.1:Nat),.int (r.2:Nat)]
theorem Zdk {K:PySem.W.Frag}{H:Hp}:∀ {vs:List V} {rs:List (Nat × Nat)},Tups H vs rs→RdDs K H vs (rs.map pairD)
 | _,_,.nil=>.nil
 | _,_,.cons ⟨t,e,h⟩ r=>by
   subst e;exact .cons (.tup (SqT.of h) (.cons (.int _) (.cons (.int _) .nil))) (Zdk r)
theorem Zcg:∀ rs:List (Nat × Nat),PyData.canLayAll0 (rs.map pairD)=true
 | []=>rfl
 | r::rs=>by
   rw [List.map_cons];simp only [PyData.canLayAll0,pairD,PyData.canLay0,Zcg rs,Bool.and_self]
theorem Zcm:∀ rs:List (Nat × Nat),PyData.depthAll (rs.map pairD)≤1
 | []=>by decide
 | r::rs=>by
   have:=Zcm rs;rw [List.map_cons];simp only [PyData.depthAll,pairD,PyData.depth];omega
theorem Zdo (rs:List (Nat × Nat)):SeqAt.shaped (.list (rs.map pairD))=true:=by
 have h1:=Zcm rs;have h2:PyData.depth (.list (rs.map pairD))≤64:=by simp only [PyData.depth];omega
 show (PyData.canLay0 (.list (rs.map pairD))&&decide (PyData.depth (.list (rs.map pairD))≤64))=true;rw [Bool.and_eq_true];exact ⟨by simp only [PyData.canLay0];exact Zcg rs,decide_eq_true h2⟩
theorem ZhH (rs qs:List (Nat × Nat)):SeqAt.noMix (.list (rs.map pairD)) (.list (qs.map pairD))=true :=
 SeqAt.noMix_of_shape (.list (.tuple [.int,.int])) rfl _ _ (list_map_has fun _=>rfl) (list_map_has fun _=>rfl)
theorem Zet:∀ rs qs:List (Nat × Nat),PySem.Spec.sameAll (rs.map pairD) (qs.map pairD)=decide (rs=qs)
 | [],[]=>by simp [PySem.Spec.sameAll]
 | [],_::_=>by simp [PySem.Spec.sameAll]
 | _::_,[]=>by simp [PySem.Spec.sameAll]
 | (a,b)::r,(c,d)::q=>by
   simp only [List.map_cons,PySem.Spec.sameAll,PySem.Spec.same,pairD,Zet r q,Bool.and_true];rw [Bool.eq_iff_iff];simp;omega
section
variable {K:PySem.W.Frag}{H:Hp}{Q:VK}{a b:Addr}
theorem Zif {rs qs:List (Nat × Nat)}(h1:RunsL H a rs)(h2:RunsL H b qs)(q:Q (.bl (decide (rs=qs))) H):rEqD K (.ref a) (.ref b) H Q:=by obtain ⟨vs,e1,t1⟩:=h1;obtain ⟨us,e2,t2⟩:=h2;exact ⟨_,_,.lst (SqL.of e1) (Zdk t1),.lst (SqL.of e2) (Zdk t2),Zdo rs,Zdo qs,ZhH rs qs,by simp only [PySem.Spec.same];rw [Zet];exact q⟩
end
theorem Tups.upd {H:Hp}{r:Addr}{xs ys:List V}{vs:List V}{rs:List (Nat × Nat)}(h:Tups H vs rs)(e:H r=some (.lst xs)):Tups (upd H r (.lst ys)) vs rs :=
 Paired.mapP h fun _ _ ⟨t,z,ht⟩=>⟨t,z,by rw [Zag (ne_of ht e (by intro q;cases q))];exact ht⟩
theorem Up.lt256 {ps:List Nat}(h:Up 0 ps)(hk:∀ p∈ps,p<256):ps.length≤256:=by
 have:∀ (qs:List Nat) (a:Nat),Up a qs→(∀ p∈qs,p<256)→a≤256→qs.length+a≤256:=by
   intro qs;induction qs with
   | nil=>intro a _ _ h;show 0+a≤256;omega
   | cons p r ih =>
     intro a u w _;have h1:=w p List.mem_cons_self;have h2:=u.1;have:=ih (p+1) u.2 (fun q hq=>w q (List.mem_cons_of_mem _ hq)) h1;rw [List.length_cons];omega
 exact this ps 0 h hk (by omega)
def spBelow:Sp:=fun vs H Q _=>∃ p:Nat,vs=[.int p]∧p≤1000∧Q (.int ((2^p-1:Nat):Int)) H
section
variable {P:Program}{w:World}{K:PySem.W.Frag}{mg:Str→Option Value}{base:Heap}
theorem Zgs (d:DefAt K mg "all_below" Zcr ["place"]):FnAt P w K mg base "all_below" ["place"] 1 spBelow:=by
 refine FnAt.of d Zgz (fun vs H Q E h=>?_) (fun f cdv A outer s H vs Q E hr h=>?_)
 · obtain ⟨p,rfl,_⟩:=h
   rfl
 obtain ⟨p,rfl,hp,q⟩:=h;refine ⟨_,(Zae (Zam (Zai Zcd (Zai Zdx Zaf (pv 0)) Zaf))),?_⟩;walk_at "vc";refine ⟨⟨by omega,by omega,by decide⟩,?_⟩;have e:(1:Int)*2^(p:Int).toNat-1=((2^p-1:Nat):Int):=by have:0<2^p:=Nat.pow_pos (by decide);rw [Int.toNat_natCast,Int.one_mul,Int.ofNat_sub this];simp
 rw [e];exact q
end
def spSpan:Sp:=fun vs H Q _=>∃ a b:Nat,vs=[.int a,.int b]∧a≤b+1∧b<1000∧Q (.int (wd (List.range' a (b+1-a)):Nat)) H
section
variable {P:Program}{w:World}{K:PySem.W.Frag}{mg:Str→Option Value}{base:Heap}
theorem Zf0 (h_all_below:FnAt P w K mg base "all_below" ["place"] 1 spBelow)(d:DefAt K mg "span_word" Zcp ["first","last"]):FnAt P w K mg base "span_word" ["first","last"] 2 spSpan:=by
 refine FnAt.of d Zgm (fun vs H Q E h=>?_) (fun f cdv A outer s H vs Q E hr h=>?_)
 · obtain ⟨x,y,rfl,_⟩:=h
   rfl
 obtain ⟨x,y,rfl,h1,h2,q⟩:=h;refine ⟨_,(Zae (Zam (Zai Zcd (Zad h_all_below (hr.mono (by decide)) rfl (Zaa (Zai ZaA (pv 1) Zaf) Zab)) (Zad h_all_below (hr.mono (by decide)) rfl (Zaa (pv 0) Zab))))),?_⟩;walk_at "vc";refine ⟨y+1,by rw [Int.natCast_add];rfl,by omega,x,rfl,by omega,?_⟩;walk_at "vc";have e:=Zeg (y+1-x) x;rw [show x+(y+1-x)=y+1 by omega] at e;have p1:0<2^x:=Nat.pow_pos (by decide);have p2:0<2^(y+1):=Nat.pow_pos (by decide);have e2:((2^(y+1)-1:Nat):Int)-((2^x-1:Nat):Int)=((wd (List.range' x (y+1-x)):Nat):Int):=by omega
 rw [e2];exact q
end
def spDrop:Sp:=fun vs H Q _=>∃ w:Nat,vs=[.int w]∧Q (.int ((w &&& (w-1):Nat):Int)) H
section
variable {P:Program}{w:World}{K:PySem.W.Frag}{mg:Str→Option Value}{base:Heap}
theorem ZdO (d:DefAt K mg "without_first" Zbx ["word"]):FnAt P w K mg base "without_first" ["word"] 1 spDrop:=by
 refine FnAt.of d ZdA (fun vs H Q E h=>?_) (fun f cdv A outer s H vs Q E hr h=>?_)
 · obtain ⟨p,rfl,_⟩:=h
   rfl
 obtain ⟨n,rfl,q⟩:=h;refine ⟨_,(Zae (Zam (Zai Zbc (pv 0) (Zai Zcd (pv 0) Zaf)))),?_⟩;walk_at "vc";have e:Builtin.bitAnd (n:Int) ((n:Int)-1)=((n &&& (n-1):Nat):Int):=by
   cases n with
   | zero=>decide
   | succ m =>
     rw [bitAnd_pp (by omega) (by omega)];have e1:((m+1:Nat):Int).toNat=m+1:=Int.toNat_natCast _;have e2:(((m+1:Nat):Int)-1).toNat=m+1-1:=by omega
     rw [e1,e2]
 rw [e];exact q
end
section
variable {P:Program}{w:World}{K:PySem.W.Frag}{mg:Str→Option Value}{base:Heap}
def spCount:Sp:=fun vs H Q _=>∃ ps:List Nat,vs=[.int (wd ps:Nat)]∧Up 0 ps∧(∀ p∈ps,p<256)∧Q (.int ps.length) H
structure LowC (mg:Str→Option Value):Prop where
 a:∃ t,mg "LOWER_1"=some (.int 38597363079105398474523661669562635951089994888546854679819194669304376546645 t)
 b:∃ t,mg "LOWER_2"=some (.int 23158417847463239084714197001737581570653996933128112807891516801582625927987 t)
 c:∃ t,mg "LOWER_4"=some (.int 6811299366900952671974763824040465167839410862684739061144563765171360567055 t)
 d:∃ t,mg "LOWER_8"=some (.int 450552876409790643671482431940419874915447411150352389258589821042463539455 t)
theorem ZhW (L:LowC mg)(d:DefAt K mg "counted" ZdN ["word"]):FnAt P w K mg base "counted" ["word"] 2 spCount:=by
 obtain ⟨⟨t1,c_LOWER_1⟩,⟨t2,c_LOWER_2⟩,⟨t4,c_LOWER_4⟩,⟨t8,c_LOWER_8⟩⟩:=L;refine FnAt.of d sc_counted (fun vs H Q E h=>?_) (fun f cdv A outer s H vs Q E hr h=>?_)
 · obtain ⟨ps,rfl,_⟩:=h
   rfl
 obtain ⟨ps,rfl,up,h256,q⟩:=h;refine ⟨_,(Zaj (Zao (i:=1) sc_counted.nd rfl (by walk_at "l") (Zai ZaA (Zai Zbc (pv 0) (ZaY (v:=.int 38597363079105398474523661669562635951089994888546854679819194669304376546645) rfl c_LOWER_1 ⟨_,rfl⟩)) (Zai Zbc (Zai Zgq (pv 0) Zaf) (ZaY (v:=.int 38597363079105398474523661669562635951089994888546854679819194669304376546645) rfl c_LOWER_1 ⟨_,rfl⟩))))
     (Zaj (Zao (i:=2) sc_counted.nd rfl (by walk_at "l") (Zai ZaA (Zai Zbc (pv 1) (ZaY (v:=.int 23158417847463239084714197001737581570653996933128112807891516801582625927987) rfl c_LOWER_2 ⟨_,rfl⟩)) (Zai Zbc (Zai Zgq (pv 1) Zaf) (ZaY (v:=.int 23158417847463239084714197001737581570653996933128112807891516801582625927987) rfl c_LOWER_2 ⟨_,rfl⟩))))
     (Zaj (Zao (i:=3) sc_counted.nd rfl (by walk_at "l") (Zai ZaA (Zai Zbc (pv 2) (ZaY (v:=.int 6811299366900952671974763824040465167839410862684739061144563765171360567055) rfl c_LOWER_4 ⟨_,rfl⟩)) (Zai Zbc (Zai Zgq (pv 2) Zaf) (ZaY (v:=.int 6811299366900952671974763824040465167839410862684739061144563765171360567055) rfl c_LOWER_4 ⟨_,rfl⟩))))
     (Zaj (Zao (i:=4) sc_counted.nd rfl (by walk_at "l") (Zai ZaA (Zai Zbc (pv 3) (ZaY (v:=.int 450552876409790643671482431940419874915447411150352389258589821042463539455) rfl c_LOWER_8 ⟨_,rfl⟩)) (Zai Zbc (Zai Zgq (pv 3) Zaf) (ZaY (v:=.int 450552876409790643671482431940419874915447411150352389258589821042463539455) rfl c_LOWER_8 ⟨_,rfl⟩))))
     (Zae (Zam (Zai ZaD (pv 4) Zaf))))))),?_⟩
 walk_at "vc";rw [swarI (k:=1) (n:=128) (d:=2) (w:=wd ps) (by rw [msk1];rfl) rfl];rw [swarI (k:=2) (n:=64) (d:=4) (by rw [msk2];rfl) rfl];rw [swarI (k:=4) (n:=32) (d:=16) (by rw [msk4];rfl) rfl];rw [swarI (k:=8) (n:=16) (d:=256) (by rw [msk8];rfl) rfl];rw [countI up h256];exact q
end
def spLast:Sp:=fun vs H Q _=>∃ ps:List Nat,vs=[.int (wd ps:Nat)]∧Up 0 ps∧Q (match ps.getLast? with | none=>.non | some p=>.int (p:Nat)) H
def spFirst:Sp:=fun vs H Q _=>∃ ps:List Nat,vs=[.int (wd ps:Nat)]∧Up 0 ps∧Q (match ps with | []=>.non | p::_=>.int (p:Nat)) H
section
variable {P:Program}{w:World}{K:PySem.W.Frag}{mg:Str→Option Value}{base:Heap}
theorem ZhM (d:DefAt K mg "last_one" ZcX ["word"]):FnAt P w K mg base "last_one" ["word"] 1 spLast:=by
 refine FnAt.of d Zg7 (fun vs H Q E h=>?_) (fun f cdv A outer s H vs Q E hr h=>?_)
 · obtain ⟨ps,rfl,_⟩:=h
   rfl
 obtain ⟨ps,rfl,up,q⟩:=h;refine ⟨_,(Zaj (ZaK (Zat ZbO (pv 0) Zaf (nomark _)) (Zae (Zam Zc5)) Zay)
     (Zae (Zam (Zai Zcd (pe_bm0K K PySem.F.plainAttrs_int PySem.F.slot_int_bit_length PySem.F.type_int_bit_length ZjK (pv 0)) Zaf)))),?_⟩
 walk_at "vc";rcases List.eq_nil_or_concat ps with rfl | ⟨qs,p,rfl⟩
 · rw [if_pos (show ((wd []:Nat):Int)=0 from rfl)]
   exact q
 · rw [List.concat_eq_append] at up q ⊢
   have h0:0<wd (qs++[p]):=by
     rw [Zbo];have:0<2^p:=Nat.pow_pos (by decide);show 0<wd qs+(2^p+0)
     omega
   rw [if_neg (by omega),ZfY up];have e:((p+1:Nat):Int)-1=(p:Nat):=by omega
   rw [e];rw [List.getLast?_concat] at q;exact q
theorem Zgn (h_last_one:FnAt P w K mg base "last_one" ["word"] 1 spLast)(d:DefAt K mg "first_one" Zcy ["word"]):FnAt P w K mg base "first_one" ["word"] 2 spFirst:=by
 refine FnAt.of d Zf6 (fun vs H Q E h=>?_) (fun f cdv A outer s H vs Q E hr h=>?_)
 · obtain ⟨ps,rfl,_⟩:=h
   rfl
 obtain ⟨ps,rfl,up,q⟩:=h;refine ⟨_,(Zae (Zam (Zad h_last_one (hr.mono (by decide)) rfl (Zaa (Zai Zbc (pv 0) (pe_un un_neg (pv 0))) Zab)))),?_⟩;walk_at "vc";cases ps with
 | nil=>exact ⟨[],rfl,trivial,q⟩
 | cons p r =>
   refine ⟨[p],?_,⟨Nat.zero_le _,trivial⟩,q⟩;rw [Zh3 up.2];rfl
end
def fstN:L2.St→Nat
 | some (.int w)::_=>w.toNat
 | _=>0
def spRunsOf:Sp:=fun vs H Q _=>∃ ps:List Nat,vs=[.int (wd ps:Nat)]∧Up 0 ps∧(∀ p∈ps,p<256)∧∀ (r:Addr) (H':Hp),Same H H'→H r=none→RunsL H' r (runsOf ps)→Q (.ref r) H'
structure RoI (ps:List Nat)(r:Addr)(H:Hp)(σ:L2.St)(H':Hp):Prop where
 ex:∃ (qs:List Nat) (rs:List (Nat × Nat)) (v2 v3:Option V),σ=[some (.int (wd qs:Nat)),some (.ref r),v2,v3]∧Up 0 qs∧(∀ p∈qs,p<256)∧runsOf ps=rs++runsOf qs∧RunsL H' r rs∧rs.length+qs.length≤ps.length
 same:Same H H'
section
variable {P:Program}{w:World}{K:PySem.W.Frag}{mg:Str→Option Value}{base:Heap}
theorem Zib (h_first_one:FnAt P w K mg base "first_one" ["word"] 2 spFirst)(h_span_word:FnAt P w K mg base "span_word" ["first","last"] 2 spSpan)(d:DefAt K mg "runs_of" ZdM ["word"]):FnAt P w K mg base "runs_of" ["word"] 3 spRunsOf:=by
 refine FnAt.of d sc_runs_of (fun vs H Q E h=>?_) (fun f cdv A outer s H vs Q E hr h=>?_)
 · obtain ⟨ps,rfl,_⟩:=h
   rfl
 obtain ⟨ps,rfl,up,h256,q⟩:=h;have hlen:=Up.lt256 up h256;refine ⟨_,(Zaj (Zao (i:=1) sc_runs_of.nd rfl (by walk_at "l") (Za1 Zab))
     (Zaj (Zeq PassesOwn.never (Zat op_gt (pv 0) Zaf (nomark _)) (Zaj (Zao (i:=2) sc_runs_of.nd rfl (by walk_at "l") (Zad h_first_one (hr.mono (by decide)) rfl (Zaa (pv 0) Zab)))
     (Zaj (Zao (i:=3) sc_runs_of.nd rfl (by walk_at "l") (Zad h_first_one (hr.mono (by decide)) rfl (Zaa (Zai ZaA (pv 0) (Zai Zdx Zaf (pv 2))) Zab)))
     (Zaj (Zdf (ZhX K PySem.F.plainAttrs_list PySem.F.slot_list_append PySem.F.type_list_append ZcH (pv 1) (Zaa (Zb8 (Zaa (pv 2) (Zaa (Zai Zcd (pv 3) Zaf) Zab))) Zab)))
     (Zae (Zao (i:=0) sc_runs_of.nd rfl (by walk_at "l") (Zai Zcd (pv 0) (Zad h_span_word (hr.mono (by decide)) rfl (Zaa (pv 2) (Zaa (Zai Zcd (pv 3) Zaf) Zab))))))))))
     (Zae (Zam (pv 1))))),?_⟩
 walk_at "vc";refine ⟨Nat.zero_le _,fun r nr=>?_⟩;refine Zeu (RoI ps r H) (fun σ _=>fstN σ) ⟨⟨ps,[],none,none,rfl,up,h256,rfl,⟨[],Zac,.nil⟩,by simp⟩,Same.new nr⟩ ?_ (fun σ H R R' h ⟨v,e,i,j,e1,e2,k,e3,q⟩=>⟨v,e,i,j,e1,e2,k,e3,h _ _ q⟩);rintro σ H1 ⟨⟨qs,rs,v2,v3,rfl,upq,q256,er,⟨vs,hv,ht⟩,hl⟩,sm⟩;walk_at "vc";cases qs with
 | nil =>
   rw [if_neg (by show ¬ (0:Int)<((0:Nat):Int);decide)];walk_at "vc";refine q r H1 sm nr ⟨vs,hv,?_⟩;rw [er];simpa [runsOf] using ht
 | cons p rr =>
   have hw:0<wd (p::rr):=Zf8;rw [if_pos (by omega)];obtain ⟨n,rest,e1,u1,l1⟩:=ZdG rr p upq.2;obtain ⟨f1,f2⟩:=ZjV u1;have p256:p<256:=q256 p List.mem_cons_self;have pn:p+n<256:=q256 (p+n) (by rw [e1];exact List.mem_append.mpr (.inl (List.mem_range'_1.mpr (by omega))));have rest256:∀ z∈rest,z<256:=fun z hz=>q256 z (by rw [e1];exact List.mem_append.mpr (.inr hz))
   have upr:Up 0 rest:=u1.mono (Nat.zero_le _);refine ⟨p::rr,rfl,upq,?_⟩;walk_at "vc";refine ⟨⟨by omega,by omega,by decide⟩,(p+n+1)::rest,?_,⟨Nat.zero_le _,by rw [show p+n+1+1=p+n+2 by omega];exact u1⟩,?_⟩
   · rw [Int.one_mul,Int.toNat_natCast,e1,← f1,Int.natCast_add,Int.natCast_pow]
     rfl
   walk_at "vc";refine ⟨⟨_,SqL.of hv⟩,by decide,fun t nt=>?_⟩;have eb:(((p+n+1:Nat):Int)-1)=((p+n:Nat):Int):=by omega
   rw [eb];have smT:Same H1 (upd H1 t (.tup [.int (p:Nat),.int ((p+n:Nat):Int)])):=Same.new nt;have hv2:=smT _ _ hv;have lv:=ht.length;rw [List.length_cons] at hl;refine ⟨vs,hv2,small1000 (by omega),p,p+n,rfl,by omega,by omega,?_⟩;walk_at "vc";have e2:((wd (p::rr):Nat):Int)-((wd (List.range' p (p+n+1-p)):Nat):Int)=((wd rest:Nat):Int):=by rw [show p+n+1-p=n+1 by omega,e1];have:=Zbo (List.range' p (n+1)) rest;omega
   rw [e2];refine ⟨⟨⟨rest,rs++[(p,p+n)],_,_,rfl,upr,rest256,?_,⟨_,Zac,((ht.same smT).snoc (r:=(p,p+n)) Zac).upd hv2⟩,?_⟩,fun b o z=>?_⟩,?_⟩
   · rw [er,e1,Ziu u1,List.append_assoc]
     rfl
   · rw [List.length_append]
     show rs.length+1+_≤_;omega
   · rw [Zag (Zar z nr)]
     exact smT _ _ (sm b o z)
   · show (((wd rest:Nat):Int)).toNat<(((wd (p::rr):Nat):Int)).toNat
     rw [e1,Zbo];have:=Zeg (n+1) p;have k1:2^p<2^(p+(n+1)):=Nat.pow_lt_pow_right (by decide) (by omega);omega
end
def spPlacesOf:Sp:=fun vs H Q _=>∃ ps:List Nat,vs=[.int (wd ps:Nat)]∧Up 0 ps∧(∀ p∈ps,p<256)∧∀ (r:Addr) (H':Hp),Same H H'→H r=none→H' r=some (.lst (pint ps))→Q (.ref r) H'
structure PoI (ps:List Nat)(r:Addr)(H:Hp)(σ:L2.St)(H':Hp):Prop where
 ex:∃ qs rs:List Nat,σ=[some (.int (wd qs:Nat)),some (.ref r)]∧Up 0 qs∧ps=rs++qs∧H' r=some (.lst (pint rs))
 same:Same H H'
section
variable {P:Program}{w:World}{K:PySem.W.Frag}{mg:Str→Option Value}{base:Heap}
theorem ZfO (h_first_one:FnAt P w K mg base "first_one" ["word"] 2 spFirst)(h_without_first:FnAt P w K mg base "without_first" ["word"] 1 spDrop)(d:DefAt K mg "places_of" Zco ["word"]):FnAt P w K mg base "places_of" ["word"] 3 spPlacesOf:=by
 refine FnAt.of d sc_places_of (fun vs H Q E h=>?_) (fun f cdv A outer s H vs Q E hr h=>?_)
 · obtain ⟨ps,rfl,_⟩:=h
   rfl
 obtain ⟨ps,rfl,up,h256,q⟩:=h;have hlen:=Up.lt256 up h256;refine ⟨_,(Zaj (Zao (i:=1) sc_places_of.nd rfl (by walk_at "l") (Za1 Zab))
     (Zaj (Zeq PassesOwn.never (Zat op_gt (pv 0) Zaf (nomark _)) (Zaj (Zdf (ZhX K PySem.F.plainAttrs_list PySem.F.slot_list_append PySem.F.type_list_append ZcH (pv 1) (Zaa (Zad h_first_one (hr.mono (by decide)) rfl (Zaa (pv 0) Zab)) Zab)))
     (Zae (Zao (i:=0) sc_places_of.nd rfl (by walk_at "l") (Zad h_without_first (hr.mono (by decide)) rfl (Zaa (pv 0) Zab))))))
     (Zae (Zam (pv 1))))),?_⟩
 walk_at "vc";refine ⟨Nat.zero_le _,fun r nr=>?_⟩;refine Zeu (PoI ps r H) (fun σ _=>fstN σ) ⟨⟨ps,[],rfl,up,rfl,Zac⟩,Same.new nr⟩ ?_ (fun σ H R R' h ⟨v,e,i,j,e1,e2,k,e3,q⟩=>⟨v,e,i,j,e1,e2,k,e3,h _ _ q⟩);rintro σ H1 ⟨⟨qs,rs,rfl,upq,er,hv⟩,sm⟩;walk_at "vc";cases qs with
 | nil =>
   rw [if_neg (by show ¬ (0:Int)<((0:Nat):Int);decide)];walk_at "vc";refine q r H1 sm nr ?_;rw [er,List.append_nil];exact hv
 | cons p rr =>
   have hw:0<wd (p::rr):=Zf8;rw [if_pos (by omega)];have hl:rs.length<ps.length:=by rw [er,List.length_append,List.length_cons];omega
   refine ⟨⟨_,SqL.of hv⟩,p::rr,rfl,upq,?_⟩;walk_at "vc";refine ⟨_,hv,small1000 (by rw [Zal];omega),_,rfl,?_⟩;walk_at "vc";refine ⟨⟨⟨rr,rs++[p],?_,upq.2.mono (Nat.zero_le _),?_,?_⟩,fun b o z=>?_⟩,?_⟩
   · rw [Zgt upq.2]
   · rw [er,List.append_assoc]
     rfl
   · rw [Zac]
     unfold pint;rw [List.map_append];rfl
   · rw [Zag (Zar z nr)]
     exact sm b o z
   · show ((((wd (p::rr) &&& (wd (p::rr)-1):Nat):Int)).toNat)<((wd (p::rr):Nat):Int).toNat
     rw [Zgt upq.2,Int.toNat_natCast,Int.toNat_natCast];have:0<2^p:=Nat.pow_pos (by decide);show wd rr<2^p+wd rr;omega
end
def spWordOf (K:PySem.W.Frag):Sp:=fun vs H Q _=>∃ (a:Addr) (ps:List Nat),vs=[.ref a]∧SqL K H a (pint ps)∧(∀ p∈ps,p<1000)∧Q (.int (orW ps:Nat)) H
structure WordOfI (a:Addr)(ps:List Nat)(H:Hp)(i:Nat)(σ:L2.St)(H':Hp):Prop where
 ex:∃ v,σ=[some (.ref a),some (.int (orW (ps.take i):Nat)),v]
 hp:H'=H
section
variable {P:Program}{w:World}{K:PySem.W.Frag}{mg:Str→Option Value}{base:Heap}
theorem Zin (d:DefAt K mg "word_of" ZdR ["places"]):FnAt P w K mg base "word_of" ["places"] 1 (spWordOf K):=by
 refine FnAt.of d sc_word_of (fun vs H Q E h=>?_) (fun f cdv A outer s H vs Q E hr h=>?_)
 · obtain ⟨a,ps,rfl,_⟩:=h
   rfl
 obtain ⟨a,ps,rfl,hS,h1000,q⟩:=h;refine ⟨_,(Zaj (Zao (i:=1) sc_word_of.nd rfl (by walk_at "l") Zaf)
     (Zaj (ZcS PassesOwn.never rfl (ZaG K (pv 0)) (Zas (i:=2) sc_word_of.nd rfl (by walk_at "l")) (Zae (Zao (i:=1) sc_word_of.nd rfl (by walk_at "l") (Zai op_or (pv 1) (Zai Zdx Zaf (pv 2))))))
     (Zae (Zam (pv 1))))),?_⟩
 walk_at "vc";refine ⟨⟨_,hS⟩,loopL (xs:=pint ps) (WordOfI a ps H) ⟨⟨_,rfl⟩,rfl⟩ ?_ ?_ ?_⟩
 · rintro i σ H' hi ⟨_,rfl⟩
   exact hS
 · rintro i x σ H' hi ⟨⟨v,rfl⟩,rfl⟩
   obtain ⟨p,hp,rfl⟩:=ZbD hi;have hmem:p<1000:=h1000 p (List.mem_of_getElem? hp);have tk:ps.take (i+1)=ps.take i++[p]:=by rw [List.take_succ,hp];rfl
   walk_at "vc";refine ⟨⟨by omega,by omega,by decide⟩,⟨some (.int p),?_⟩,rfl⟩;rw [tk,orW_snoc,Zc8 (Int.natCast_nonneg _) (by rw [Int.one_mul];exact ZeD _)];rw [Int.toNat_natCast,Int.toNat_natCast,Int.one_mul];congr
 · rintro σ H' ⟨⟨v,rfl⟩,rfl⟩
   walk_at "vc";rw [List.take_of_length_le (by rw [Zal];exact Nat.le_refl _)];exact q
end
def spWordOfRuns:Sp:=fun vs H Q _=>∃ (a:Addr) (rs:List (Nat × Nat)),vs=[.ref a]∧RunsL H a rs∧(∀ r∈rs,r.1≤r.2∧r.2<999)∧Q (.int (orR rs:Nat)) H
structure WordRI (a:Addr)(rs:List (Nat × Nat))(H:Hp)(i:Nat)(σ:L2.St)(H':Hp):Prop where
 ex:∃ v v',σ=[some (.ref a),some (.int (orR (rs.take i):Nat)),v,v']
 hp:H'=H
theorem Tups.get {H:Hp}:∀ {vs:List V} {rs:List (Nat × Nat)} {i:Nat} {x:V},Tups H vs rs→vs[i]?=some x→∃ t r,x=.ref t∧rs[i]?=some r∧H t=some (.tup [.int (r.1:Nat),.int (r.2:Nat)])
 | _,_,_,_,.nil,e=>by simp at e
 | _,_,0,_,.cons ⟨t,z,h⟩ _,e=>by
   simp at e;subst e;exact ⟨t,_,z,rfl,h⟩
 | _,_,i+1,x,.cons _ q,e=>by
   obtain ⟨t,r,h1,h2,h3⟩:=Tups.get (i:=i) (x:=x) q (by simpa using e);exact ⟨t,r,h1,by simpa using h2,h3⟩
section
variable {P:Program}{w:World}{K:PySem.W.Frag}{mg:Str→Option Value}{base:Heap}
theorem Zd4 (h_span_word:FnAt P w K mg base "span_word" ["first","last"] 2 spSpan)(d:DefAt K mg "word_of_runs" ZbK ["runs"]):FnAt P w K mg base "word_of_runs" ["runs"] 3 spWordOfRuns:=by
 refine FnAt.of d sc_word_of_runs (fun vs H Q E h=>?_) (fun f cdv A outer s H vs Q E hr h=>?_)
 · obtain ⟨a,rs,rfl,_⟩:=h
   rfl
 obtain ⟨a,rs,rfl,⟨vs,hv,ht⟩,hb,q⟩:=h;refine ⟨_,(Zaj (Zao (i:=1) sc_word_of_runs.nd rfl (by walk_at "l") Zaf)
     (Zaj (ZcS PassesOwn.never rfl (ZaG K (pv 0)) (Zee K rfl (ZaR (Zas (i:=2) sc_word_of_runs.nd rfl (by walk_at "l")) (ZaR (Zas (i:=3) sc_word_of_runs.nd rfl (by walk_at "l")) Zdd))) (Zae (Zao (i:=1) sc_word_of_runs.nd rfl (by walk_at "l") (Zai op_or (pv 1) (Zad h_span_word (hr.mono (by decide)) rfl (Zaa (pv 2) (Zaa (pv 3) Zab)))))))
     (Zae (Zam (pv 1))))),?_⟩
 walk_at "vc";refine ⟨⟨_,SqL.of hv⟩,loopL (xs:=vs) (WordRI a rs H) ⟨⟨_,_,rfl⟩,rfl⟩ ?_ ?_ ?_⟩
 · rintro i σ H' hi ⟨_,rfl⟩
   exact SqL.of hv
 · rintro i x σ H' hi ⟨⟨v,v',rfl⟩,rfl⟩
   obtain ⟨t,r,rfl,hr1,htt⟩:=ht.get hi;obtain ⟨b1,b2⟩:=hb r (List.mem_of_getElem? hr1);have tk:rs.take (i+1)=rs.take i++[r]:=by rw [List.take_succ,hr1];rfl
   walk_at "vc";refine ⟨_,SqT.of htt,rfl,?_⟩;walk_at "vc";refine ⟨_,_,⟨rfl,rfl⟩,?_⟩;walk_at "vc";refine ⟨_,_,⟨rfl,rfl⟩,?_⟩;walk_at "vc";refine ⟨r.1,r.2,rfl,by omega,by omega,?_⟩;walk_at "vc";refine ⟨⟨some (.int (r.1:Nat)),some (.int (r.2:Nat)),?_⟩,rfl⟩;rw [tk,orR_snoc,Zc8 (Int.natCast_nonneg _) (Int.natCast_nonneg _),Int.toNat_natCast,Int.toNat_natCast]
 · rintro σ H' ⟨⟨v,v',rfl⟩,rfl⟩
   walk_at "vc";rw [List.take_of_length_le (by rw [ht.length];exact Nat.le_refl _)];exact q
end
inductive Kd where
 | l | b | r
def kS:Kd→Str
 | .l=>"list"
 | .b=>"bits"
 | .r=>"runs"
def BodyIs (H:Hp):Kd→List Nat→V→Prop
 | .l,ps,v=>∃ l,v=.ref l∧H l=some (.lst (pint ps))
 | .b,ps,v=>v=.int (wd ps:Nat)
 | .r,ps,v=>∃ l,v=.ref l∧RunsL H l (runsOf ps)
theorem BodyIs.same {H H':Hp}{k:Kd}{ps:List Nat}{v:V}(h:BodyIs H k ps v)(s:Same H H'):BodyIs H' k ps v:=by
 cases k with
 | l=>obtain ⟨l,e,h⟩:=h;exact ⟨l,e,s _ _ h⟩
 | b=>exact h
 | r=>obtain ⟨l,e,h⟩:=h;exact ⟨l,e,h.same s⟩
def StAt (c:Kd→Addr)(k:Kd)(H:Hp)(a:Addr)(ps:List Nat):Prop:=match k with
 | .l=>∃ dx l,H a=some (.ins (c .l) dx [("places",.ref l)])∧H l=some (.lst (pint ps))
 | .b=>∃ dx,H a=some (.ins (c .b) dx [("ones",.int (wd ps:Nat))])
 | .r=>∃ dx l,H a=some (.ins (c .r) dx [("runs",.ref l)])∧RunsL H l (runsOf ps)
theorem StAt.same {c:Kd→Addr}{k:Kd}{H H':Hp}{a:Addr}{ps:List Nat}(h:StAt c k H a ps)(s:Same H H'):StAt c k H' a ps:=by
 cases k with
 | l=>obtain ⟨dx,l,e,h⟩:=h;exact ⟨dx,l,s _ _ e,s _ _ h⟩
 | b=>obtain ⟨dx,e⟩:=h;exact ⟨dx,s _ _ e⟩
 | r=>obtain ⟨dx,l,e,h⟩:=h;exact ⟨dx,l,s _ _ e,h.same s⟩
def noF (fs:List (Str × V)):Prop:=fs.lookup (Str.ofString "kind")=none∧fs.lookup (Str.ofString "body")=none∧fs.lookup (Str.ofString "word")=none∧fs.lookup (Str.ofString "size")=none∧fs.lookup (Str.ofString "told")=none∧fs.lookup (Str.ofString "many")=none∧fs.lookup (Str.ofString "has")=none∧fs.lookup (Str.ofString "below")=none∧fs.lookup (Str.ofString "chosen")=none∧fs.lookup (Str.ofString "onward")=none∧fs.lookup (Str.ofString "backward")=none
theorem Zip (v:V):noF [("places",v)]:=⟨rfl,rfl,rfl,rfl,rfl,rfl,rfl,rfl,rfl,rfl,rfl⟩
theorem noF_ones (v:V):noF [("ones",v)]:=⟨rfl,rfl,rfl,rfl,rfl,rfl,rfl,rfl,rfl,rfl,rfl⟩
theorem noF_runs (v:V):noF [("runs",v)]:=⟨rfl,rfl,rfl,rfl,rfl,rfl,rfl,rfl,rfl,rfl,rfl⟩
theorem StAt.obj {c:Kd→Addr}{k:Kd}{H:Hp}{a:Addr}{ps:List Nat}(h:StAt c k H a ps):∃ dx fs,H a=some (.ins (c k) dx fs)∧noF fs:=by
 cases k with
 | l=>obtain ⟨dx,l,e,_⟩:=h;exact ⟨dx,_,e,Zip _⟩
 | b=>obtain ⟨dx,e⟩:=h;exact ⟨dx,_,e,noF_ones _⟩
 | r=>obtain ⟨dx,l,e,_⟩:=h;exact ⟨dx,_,e,noF_runs _⟩
def spKindS (k:Kd):Sp:=fun vs H Q _=>∃ a:Addr,vs=[.ref a]∧Q (.str (kS k)) H
def spWordM (c:Kd→Addr)(k:Kd):Sp:=fun vs H Q _=>∃ (a:Addr) (ps:List Nat),vs=[.ref a]∧StAt c k H a ps∧Up 0 ps∧(∀ p∈ps,p<256)∧Q (.int (wd ps:Nat)) H
def spManyM (c:Kd→Addr)(k:Kd):Sp:=fun vs H Q _=>∃ (a:Addr) (ps:List Nat),vs=[.ref a]∧StAt c k H a ps∧Up 0 ps∧(∀ p∈ps,p<256)∧Q (.int ps.length) H
def spInitS (K:PySem.W.Frag)(c:Kd→Addr):Kd→Sp
 | .l=>fun vs H Q _=>∃ (x dx p:Addr) (ps:List Nat),vs=[.ref x,.ref p]∧H x=some (.ins (c .l) dx [])∧SqL K H p (pint ps)∧∀ l,H l=none→Q .non (upd (upd H l (.lst (pint ps))) x (.ins (c .l) dx [("places",.ref l)]))
 | .b=>fun vs H Q _=>∃ (x dx:Addr) (v:V),vs=[.ref x,v]∧H x=some (.ins (c .b) dx [])∧Q .non (upd H x (.ins (c .b) dx [("ones",v)]))
 | .r=>fun vs H Q _=>∃ (x dx p:Addr) (us:List V),vs=[.ref x,.ref p]∧H x=some (.ins (c .r) dx [])∧H p=some (.lst us)∧∀ l,H l=none→Q .non (upd (upd H l (.lst us)) x (.ins (c .r) dx [("runs",.ref l)]))
section
variable {P:Program}{w:World}{K:PySem.W.Frag}{mg:Str→Option Value}{base:Heap}{c:Kd→Addr}
theorem Zj5 (B:Blt mg)(cd:CD_ListStretch K mg (c .l)):MakeAt P w K mg base "ListStretch" (c .l) ["self","places"] 1 (spInitS K c .l):=by
 refine MakeAt.of cd.at_ cd.init ZbZ (fun vs H Q E h=>?_) (fun f cdv A outer s H vs Q E hr h=>?_)
 · obtain ⟨x,dx,p,ps,rfl,_⟩:=h
   rfl
 obtain ⟨x,dx,p,ps,rfl,hx,hp,q⟩:=h;refine ⟨_,(Zae (Zbk K (pv 0) (Za8 (ZaS K) rfl B.lst boot_list (Zaa (pv 1) Zab)))),?_⟩;walk_at "vc";refine ⟨_,.inl hp,fun l hl=>?_⟩;have hx2:upd H l (.lst (pint ps)) x=some (.ins (c .l) dx []):=by rw [Zag (Zar hx hl)];exact hx
 exact ⟨_,_,_,hx2,cd.c,cd.n_places,by decide,q l hl⟩
theorem ZjE (cd:CD_BitStretch K mg (c .b)):MakeAt P w K mg base "BitStretch" (c .b) ["self","word"] 1 (spInitS K c .b):=by
 refine MakeAt.of cd.at_ cd.init Zcf (fun vs H Q E h=>?_) (fun f cdv A outer s H vs Q E hr h=>?_)
 · obtain ⟨x,dx,v,rfl,_⟩:=h
   rfl
 obtain ⟨x,dx,v,rfl,hx,q⟩:=h;refine ⟨_,(Zae (Zbk K (pv 0) (pv 1))),?_⟩;walk_at "vc";exact ⟨_,_,_,hx,cd.c,cd.n_ones,by decide,q⟩
theorem Zki (B:Blt mg)(cd:CD_RunStretch K mg (c .r)):MakeAt P w K mg base "RunStretch" (c .r) ["self","runs"] 1 (spInitS K c .r):=by
 refine MakeAt.of cd.at_ cd.init Zcc (fun vs H Q E h=>?_) (fun f cdv A outer s H vs Q E hr h=>?_)
 · obtain ⟨x,dx,p,us,rfl,_⟩:=h
   rfl
 obtain ⟨x,dx,p,us,rfl,hx,hp,q⟩:=h;refine ⟨_,(Zae (Zbk K (pv 0) (Za8 (ZaS K) rfl B.lst boot_list (Zaa (pv 1) Zab)))),?_⟩;walk_at "vc";refine ⟨_,.inl (SqL.of hp),fun l hl=>?_⟩;have hx2:upd H l (.lst us) x=some (.ins (c .r) dx []):=by rw [Zag (Zar hx hl)];exact hx
 exact ⟨_,_,_,hx2,cd.c,cd.n_runs,by decide,q l hl⟩
end
section
variable {P:Program}{w:World}{K:PySem.W.Frag}{mg:Str→Option Value}{base:Heap}{c:Kd→Addr}
theorem Zj8 (h_word_of:FnAt P w K mg base "word_of" ["places"] 1 (spWordOf K))(cd:CD_ListStretch K mg (c .l)):MethAt P w K mg base (c .l) "word" ["self"] 4 (spWordM c .l):=by
 refine MethAt.of cd.c cd.m_word ZcI (fun vs H Q E h=>?_) (fun f cdv A outer s H vs Q E hr h=>?_)
 · obtain ⟨a,ps,rfl,_⟩:=h
   rfl
 obtain ⟨a,ps,rfl,⟨dx,l,ha,hl⟩,up,h256,q⟩:=h;refine ⟨_,(Zae (Zam (Zad h_word_of (hr.mono (by decide)) rfl (Zaa (Zau K (pv 0)) Zab)))),?_⟩;walk_at "vc";refine ⟨_,_,_,ha,cd.c,cd.n_places,.ref l,rfl,l,ps,rfl,SqL.of hl,fun p hp=>Nat.lt_trans (h256 p hp) (by decide),?_⟩;rw [orW_up up];exact q
theorem Zkh (cd:CD_BitStretch K mg (c .b)):MethAt P w K mg base (c .b) "word" ["self"] 4 (spWordM c .b):=by
 refine MethAt.of cd.c cd.m_word ZcZ (fun vs H Q E h=>?_) (fun f cdv A outer s H vs Q E hr h=>?_)
 · obtain ⟨a,ps,rfl,_⟩:=h
   rfl
 obtain ⟨a,ps,rfl,⟨dx,ha⟩,up,h256,q⟩:=h;refine ⟨_,(Zae (Zam (Zau K (pv 0)))),?_⟩;walk_at "vc";exact ⟨_,_,_,ha,cd.c,cd.n_ones,_,rfl,q⟩
theorem Zkn (h_word_of_runs:FnAt P w K mg base "word_of_runs" ["runs"] 3 spWordOfRuns)(cd:CD_RunStretch K mg (c .r)):MethAt P w K mg base (c .r) "word" ["self"] 4 (spWordM c .r):=by
 refine MethAt.of cd.c cd.m_word ZcY (fun vs H Q E h=>?_) (fun f cdv A outer s H vs Q E hr h=>?_)
 · obtain ⟨a,ps,rfl,_⟩:=h
   rfl
 obtain ⟨a,ps,rfl,⟨dx,l,ha,hl⟩,up,h256,q⟩:=h;refine ⟨_,(Zae (Zam (Zad h_word_of_runs (hr.mono (by decide)) rfl (Zaa (Zau K (pv 0)) Zab)))),?_⟩;walk_at "vc";refine ⟨_,_,_,ha,cd.c,cd.n_runs,.ref l,rfl,l,_,rfl,hl,fun r hr=>⟨ZdQ ps r hr,Nat.lt_trans (Zky h256 r hr) (by decide)⟩,?_⟩;rw [ZhU up];exact q
end
section
variable {P:Program}{w:World}{K:PySem.W.Frag}{mg:Str→Option Value}{base:Heap}{c:Kd→Addr}
theorem ok_many (hw:∀ k,MethAt P w K mg base (c k) "word" ["self"] 4 (spWordM c k))(h_counted:FnAt P w K mg base "counted" ["word"] 2 spCount)(k:Kd)(cc:Cls K (c k))(d:MDefAt K (c k) "many" "Stretch.many" ZaB ["self"]):MethAt P w K mg base (c k) "many" ["self"] 5 (spManyM c k):=by
 refine MethAt.of cc d Zd7 (fun vs H Q E h=>?_) (fun f cdv A outer s H vs Q E hr h=>?_)
 · obtain ⟨a,ps,rfl,_⟩:=h
   rfl
 obtain ⟨a,ps,rfl,hst,up,h256,q⟩:=h;obtain ⟨dx,fs,ha,nf⟩:=hst.obj;refine ⟨_,(Zae (Zam (Zad h_counted (hr.mono (by decide)) rfl (Zaa (ZaC (P:=P) (w:=w) (K:=K) (mg:=mg) (base:=base) 4 (hr.mono (by decide)) (pv 0)) Zab)))),?_⟩;walk_at "vc";exact ⟨_,_,_,ha,nf.2.2.1,_,_,hw k,a,ps,rfl,hst,up,h256,ps,rfl,up,h256,q⟩
end
section
variable {P:Program}{w:World}{K:PySem.W.Frag}{mg:Str→Option Value}{base:Heap}{c:Kd→Addr}
theorem Zkq (cd:CD_ListStretch K mg (c .l)):MethAt P w K mg base (c .l) "kind" ["self"] 1 (spKindS .l):=by
 refine MethAt.of cd.c cd.m_kind ZcJ (fun vs H Q E h=>?_) (fun f cdv A outer s H vs Q E hr h=>?_)
 · obtain ⟨a,rfl,_⟩:=h
   rfl
 obtain ⟨a,rfl,q⟩:=h;refine ⟨_,(Zae (Zam Ziv)),?_⟩;walk_at "vc";exact q
theorem Zkj (cd:CD_BitStretch K mg (c .b)):MethAt P w K mg base (c .b) "kind" ["self"] 1 (spKindS .b):=by
 refine MethAt.of cd.c cd.m_kind ZcR (fun vs H Q E h=>?_) (fun f cdv A outer s H vs Q E hr h=>?_)
 · obtain ⟨a,rfl,_⟩:=h
   rfl
 obtain ⟨a,rfl,q⟩:=h;refine ⟨_,(Zae (Zam Ziv)),?_⟩;walk_at "vc";exact q
theorem Zj0 (cd:CD_RunStretch K mg (c .r)):MethAt P w K mg base (c .r) "kind" ["self"] 1 (spKindS .r):=by
 refine MethAt.of cd.c cd.m_kind ZcN (fun vs H Q E h=>?_) (fun f cdv A outer s H vs Q E hr h=>?_)
 · obtain ⟨a,rfl,_⟩:=h
   rfl
 obtain ⟨a,rfl,q⟩:=h;refine ⟨_,(Zae (Zam Ziv)),?_⟩;walk_at "vc";exact q
end
def spBodyN (c:Kd→Addr)(k:Kd):Sp:=fun vs H Q _=>∃ (a:Addr) (ps:List Nat),vs=[.ref a]∧StAt c k H a ps∧∀ v H',Same H H'→BodyIs H' k ps v→(∀ l,v=.ref l→H l=none)→Q v H'
section
variable {P:Program}{w:World}{K:PySem.W.Frag}{mg:Str→Option Value}{base:Heap}{c:Kd→Addr}
theorem Zia (B:Blt mg)(cd:CD_ListStretch K mg (c .l)):MethAt P w K mg base (c .l) "body" ["self"] 1 (spBodyN c .l):=by
 refine MethAt.of cd.c cd.m_body ZcK (fun vs H Q E h=>?_) (fun f cdv A outer s H vs Q E hr h=>?_)
 · obtain ⟨a,ps,rfl,_⟩:=h
   rfl
 obtain ⟨a,ps,rfl,⟨dx,l,ha,hl⟩,q⟩:=h;refine ⟨_,(Zae (Zam (Za8 (ZaS K) rfl B.lst boot_list (Zaa (Zau K (pv 0)) Zab)))),?_⟩;walk_at "vc";refine ⟨_,_,_,ha,cd.c,cd.n_places,.ref l,rfl,l,rfl,_,.inl (SqL.of hl),fun p hp=>?_⟩;exact q _ _ (Same.new hp) ⟨p,rfl,Zac⟩ fun l' e=>by cases e;exact hp
theorem Zil (cd:CD_BitStretch K mg (c .b)):MethAt P w K mg base (c .b) "body" ["self"] 1 (spBodyN c .b):=by
 refine MethAt.of cd.c cd.m_body Zc6 (fun vs H Q E h=>?_) (fun f cdv A outer s H vs Q E hr h=>?_)
 · obtain ⟨a,ps,rfl,_⟩:=h
   rfl
 obtain ⟨a,ps,rfl,⟨dx,ha⟩,q⟩:=h;refine ⟨_,(Zae (Zam (Zau K (pv 0)))),?_⟩;walk_at "vc";exact ⟨_,_,_,ha,cd.c,cd.n_ones,_,rfl,q _ _ (Same.refl _) rfl (fun l e=>by cases e)⟩
theorem ZhT (B:Blt mg)(cd:CD_RunStretch K mg (c .r)):MethAt P w K mg base (c .r) "body" ["self"] 1 (spBodyN c .r):=by
 refine MethAt.of cd.c cd.m_body Zc3 (fun vs H Q E h=>?_) (fun f cdv A outer s H vs Q E hr h=>?_)
 · obtain ⟨a,ps,rfl,_⟩:=h
   rfl
 obtain ⟨a,ps,rfl,⟨dx,l,ha,us,hl,ht⟩,q⟩:=h;refine ⟨_,(Zae (Zam (Za8 (ZaS K) rfl B.lst boot_list (Zaa (Zau K (pv 0)) Zab)))),?_⟩;walk_at "vc";refine ⟨_,_,_,ha,cd.c,cd.n_runs,.ref l,rfl,l,rfl,_,.inl (SqL.of hl),fun p hp=>?_⟩;have sm:Same H (upd H p (.lst us)):=Same.new hp;exact q _ _ sm ⟨p,rfl,us,Zac,ht.same sm⟩ fun l' e=>by cases e;exact hp
end
def kdOf (ps:List Nat):Kd:=if ps.length≤32∧ps.length≤2*(runsOf ps).length then .l else if 32≤2*(runsOf ps).length then .b else .r
def spSizes:Sp:=fun vs H Q _=>∃ ps:List Nat,vs=[.int (wd ps:Nat)]∧Up 0 ps∧(∀ p∈ps,p<256)∧∀ t,H t=none→Q (.ref t) (upd H t (.tup [.int ps.length,.int 32,.int ((2*(runsOf ps).length:Nat):Int)]))
def KeptIs (c:Kd→Addr)(H:Hp)(ps:List Nat)(v:V):Prop:=(ps=[]→v=.non)∧(ps≠[]→∃ x,v=.ref x∧StAt c (kdOf ps) H x ps)
theorem KeptIs.same {c:Kd→Addr}{H H':Hp}{ps:List Nat}{v:V}(h:KeptIs c H ps v)(s:Same H H'):KeptIs c H' ps v:=⟨h.1,fun e=>let ⟨x,a,b⟩:=h.2 e;⟨x,a,b.same s⟩⟩
def spKept (c:Kd→Addr):Sp:=fun vs H Q _=>∃ ps:List Nat,vs=[.int (wd ps:Nat)]∧Up 0 ps∧(∀ p∈ps,p<256)∧∀ v H',Same H H'→KeptIs c H' ps v→Q v H'
theorem wd_eq0 {ps:List Nat}:((wd ps:Nat):Int)=0↔ps=[]:=by
 cases ps with
 | nil=>exact ⟨fun _=>rfl,fun _=>rfl⟩
 | cons p r =>
   have:0<wd (p::r):=Zf8;exact ⟨fun h=>by omega,fun h=>by cases h⟩
section
variable {K:PySem.W.Frag}{c:Kd→Addr}{H:Hp}{Q:VK}{E:XK}
theorem mkS_l {l1:Addr}{ps:List Nat}(hl:SqL K H l1 (pint ps))(q:∀ a H',Same H H'→H a=none→StAt c .l H' a ps→Q (.ref a) H') :
   ∀ x dx,H x=none→H dx=none→dx≠x→spInitS K c .l [.ref x,.ref l1] (upd (upd H dx (.own x)) x (.ins (c .l) dx [])) (fun v H'=>v=.non∧Q (.ref x) H') E:=by
 intro x dx nx ndx dne;have m2:Same H (upd (upd H dx (.own x)) x (.ins (c .l) dx [])):=(Same.new ndx).put nx;refine ⟨x,dx,l1,ps,rfl,Zac,m2.seq hl,fun l nl=>⟨rfl,?_⟩⟩;have m4:=(m2.put (o:=.lst (pint ps)) (m2.free nl)).put (o:=.ins (c .l) dx [("places",.ref l)]) nx;refine q x _ m4 nx ⟨dx,l,Zac,?_⟩;have:l≠x:=fun z=>by rw [z,Zac] at nl;cases nl
 rw [Zag this,Zac]
theorem mkS_b {ps:List Nat}(q:∀ a H',Same H H'→H a=none→StAt c .b H' a ps→Q (.ref a) H') :
   ∀ x dx,H x=none→H dx=none→dx≠x→spInitS K c .b [.ref x,.int (wd ps:Nat)] (upd (upd H dx (.own x)) x (.ins (c .b) dx [])) (fun v H'=>v=.non∧Q (.ref x) H') E:=by
 intro x dx nx ndx dne;have m2:Same H (upd (upd H dx (.own x)) x (.ins (c .b) dx [])):=(Same.new ndx).put nx;exact ⟨x,dx,_,rfl,Zac,rfl,q x _ (m2.put nx) nx ⟨dx,Zac⟩⟩
theorem mkS_r {l1:Addr}{ps:List Nat}(hl:RunsL H l1 (runsOf ps))(q:∀ a H',Same H H'→H a=none→StAt c .r H' a ps→Q (.ref a) H') :
   ∀ x dx,H x=none→H dx=none→dx≠x→spInitS K c .r [.ref x,.ref l1] (upd (upd H dx (.own x)) x (.ins (c .r) dx [])) (fun v H'=>v=.non∧Q (.ref x) H') E:=by
 intro x dx nx ndx dne;obtain ⟨us,hu,ht⟩:=hl;have m2:Same H (upd (upd H dx (.own x)) x (.ins (c .r) dx [])):=(Same.new ndx).put nx;refine ⟨x,dx,l1,us,rfl,Zac,m2 _ _ hu,fun l nl=>⟨rfl,?_⟩⟩;have m4:=(m2.put (o:=.lst us) (m2.free nl)).put (o:=.ins (c .r) dx [("runs",.ref l)]) nx;refine q x _ m4 nx ⟨dx,l,Zac,us,?_,ht.same m4⟩;have:l≠x:=fun z=>by rw [z,Zac] at nl;cases nl
 rw [Zag this,Zac]
end
section
variable {P:Program}{w:World}{K:PySem.W.Frag}{mg:Str→Option Value}{base:Heap}{c:Kd→Addr}
theorem ok_sizes (cP:∃ t,mg "PLACES"=some (.int 256 t))(h_counted:FnAt P w K mg base "counted" ["word"] 2 spCount)(d:DefAt K mg "sizes" Zgc ["word"]):FnAt P w K mg base "sizes" ["word"] 3 spSizes:=by
 obtain ⟨tP,c_PLACES⟩:=cP;refine FnAt.of d sc_sizes (fun vs H Q E h=>?_) (fun f cdv A outer s H vs Q E hr h=>?_)
 · obtain ⟨ps,rfl,_⟩:=h
   rfl
 obtain ⟨ps,rfl,up,h256,q⟩:=h;refine ⟨_,(Zaj (Zao (i:=1) sc_sizes.nd rfl (by walk_at "l") (Zai Zbc (pv 0) (pe_un un_inv (Zai Zdx (pv 0) Zaf))))
     (Zae (Zam (Zb8 (Zaa (Zad h_counted (hr.mono (by decide)) rfl (Zaa (pv 0) Zab)) (Zaa (Zai ZaI (ZaY (v:=.int 256) rfl c_PLACES ⟨_,rfl⟩) Zaf) (Zaa (Zai Zce Zaf (Zad h_counted (hr.mono (by decide)) rfl (Zaa (pv 1) Zab))) Zab))))))),?_⟩
 walk_at "vc";refine ⟨wd_abs up h256,ps,rfl,up,h256,bgs ps,by rw [bgs_wdI2 up],up.filter,bgs_lt h256,_,rfl,by decide,fun t nt=>?_⟩;have e:=q t nt;rw [runs_bgs up,Int.natCast_mul] at e;exact e
theorem ok_kept (h_sizes:FnAt P w K mg base "sizes" ["word"] 3 spSizes)(h_places_of:FnAt P w K mg base "places_of" ["word"] 3 spPlacesOf)(h_runs_of:FnAt P w K mg base "runs_of" ["word"] 3 spRunsOf)
   (h_ListStretch:MakeAt P w K mg base "ListStretch" (c .l) ["self","places"] 1 (spInitS K c .l)) (h_BitStretch:MakeAt P w K mg base "BitStretch" (c .b) ["self","word"] 1 (spInitS K c .b)) (h_RunStretch:MakeAt P w K mg base "RunStretch" (c .r) ["self","runs"] 1 (spInitS K c .r))
   (d:DefAt K mg "kept" Zh6 ["word"]):FnAt P w K mg base "kept" ["word"] 4 (spKept c):=by
 refine FnAt.of d sc_kept (fun vs H Q E h=>?_) (fun f cdv A outer s H vs Q E hr h=>?_)
 · obtain ⟨ps,rfl,_⟩:=h
   rfl
 obtain ⟨ps,rfl,up,h256,q⟩:=h;refine ⟨_,(Zaj (ZaK (Zat ZbO (pv 0) Zaf (nomark _)) (Zae (Zam Zc5)) Zay)
     (Zaj (ps_asg (Zad h_sizes (hr.mono (by decide)) rfl (Zaa (pv 0) Zab)) (Zee K rfl (ZaR (Zas (i:=1) sc_kept.nd rfl (by walk_at "l")) (ZaR (Zas (i:=2) sc_kept.nd rfl (by walk_at "l")) (ZaR (Zas (i:=3) sc_kept.nd rfl (by walk_at "l")) Zdd)))))
     (Zaj (ZaK (PW.pt (pw_and (Zat ZhK (pv 1) (pv 2) (nomark _)) (pw_and1 (Zat ZhK (pv 1) (pv 3) (nomark _))))) (Zae (Zam (Ze1 h_ListStretch (hr.mono (by decide)) rfl (Zaa (Zad h_places_of (hr.mono (by decide)) rfl (Zaa (pv 0) Zab)) Zab)))) Zay)
     (Zaj (ZaK (Zat ZhK (pv 2) (pv 3) (nomark _)) (Zae (Zam (Ze1 h_BitStretch (hr.mono (by decide)) rfl (Zaa (pv 0) Zab)))) Zay)
     (Zae (Zam (Ze1 h_RunStretch (hr.mono (by decide)) rfl (Zaa (Zad h_runs_of (hr.mono (by decide)) rfl (Zaa (pv 0) Zab)) Zab)))))))),?_⟩
 walk_at "vc";by_cases e0:ps=[]
 · rw [if_pos (wd_eq0.mpr e0)]
   exact q _ _ (Same.refl _) ⟨fun _=>rfl,fun z=>absurd e0 z⟩
 rw [if_neg (fun z=>e0 (wd_eq0.mp z))];have q:∀ x H',Same H H'→StAt c (kdOf ps) H' x ps→Q (.ref x) H':=fun x H' s st=>q _ _ s ⟨fun z=>absurd z e0,fun _=>⟨x,rfl,st⟩⟩
 refine ⟨ps,rfl,up,h256,fun t nt=>?_⟩;have smT:Same H (upd H t (.tup [.int ps.length,.int 32,.int ((2*(runsOf ps).length:Nat):Int)])):=Same.new nt;refine ⟨t,rfl,_,SqT.of Zac,rfl,_,_,rfl,_,_,rfl,_,_,rfl,rfl,_,rfl,_,rfl,?_⟩;generalize upd H t (.tup [.int ps.length,.int 32,.int ((2*(runsOf ps).length:Nat):Int)])=H1 at smT ⊢;have rest:¬ (ps.length≤32∧ps.length≤2*(runsOf ps).length)→∃ i,V.int 32=V.int i∧∃ x,V.int ((2*(runsOf ps).length:Nat):Int)=V.int x ∧
     if i≤x then ∀ (x dx:Addr),H1 x=none→H1 dx=none→dx≠x→spInitS K c Kd.b [V.ref x,V.int ((wd ps:Nat):Int)] (upd (upd H1 dx (HO.own x)) x (HO.ins (c Kd.b) dx [])) (fun v H2=>v=V.non∧Q (V.ref x) H2) E0
     else spRunsOf [V.int ((wd ps:Nat):Int)] H1 (fun x H1=>∀ (x_1 dx:Addr),H1 x_1=none→H1 dx=none→dx≠x_1→spInitS K c Kd.r [V.ref x_1,x] (upd (upd H1 dx (HO.own x_1)) x_1 (HO.ins (c Kd.r) dx [])) (fun v H2=>v=V.non∧Q (V.ref x_1) H2) E0) E0:=fun n1=>by
   refine ⟨_,rfl,_,rfl,?_⟩;by_cases c3:32≤2*(runsOf ps).length
   · rw [if_pos (by omega)]
     have e:kdOf ps=.b:=by unfold kdOf;rw [if_neg n1,if_pos c3]
     rw [e] at q;exact mkS_b fun x H' sm nx st=>q x H' (smT.trans sm) st
   · rw [if_neg (by omega)]
     have e:kdOf ps=.r:=by unfold kdOf;rw [if_neg n1,if_neg c3]
     rw [e] at q;refine ⟨ps,rfl,up,h256,fun r H2 s2 nr hr2=>?_⟩;exact mkS_r hr2 fun x H' sm nx st=>q x H' (smT.trans (s2.trans sm)) st
 by_cases c1:ps.length≤32
 · rw [if_pos (by omega)]
   refine ⟨_,rfl,_,rfl,?_⟩;by_cases c2:ps.length≤2*(runsOf ps).length
   · rw [if_pos (by omega)]
     have e:kdOf ps=.l:=by unfold kdOf;rw [if_pos ⟨c1,c2⟩]
     rw [e] at q;refine ⟨ps,rfl,up,h256,fun r H2 s2 nr hr2=>?_⟩;exact mkS_l (SqL.of hr2) fun x H' sm nx st=>q x H' (smT.trans (s2.trans sm)) st
   · rw [if_neg (by omega)]
     exact rest fun z=>c2 z.2
 · rw [if_neg (by omega)]
   exact rest fun z=>c1 z.1
end
def gCom (ps qs:List Nat):List Nat:=ps.filter fun p=>decide (p∈qs)
def gJoin (ps qs:List Nat):List Nat:=(List.range 256).filter fun p=>decide (p∈ps)||decide (p∈qs)
def gLess (ps qs:List Nat):List Nat:=ps.filter fun p=>!decide (p∈qs)
def gEith (ps qs:List Nat):List Nat:=(List.range 256).filter fun p=>decide (p∈ps) != decide (p∈qs)
theorem Zix {f:Nat→Bool}:∀ p∈(List.range 256).filter f,p<256:=fun p hp=>List.mem_range.mp (List.mem_filter.mp hp).1
theorem Zik {f:Nat→Bool}{ps:List Nat}(h:∀ p∈ps,p<256):∀ p∈ps.filter f,p<256:=fun p hp=>h p (List.mem_filter.mp hp).1
def gAdd (ps:List Nat)(p:Nat):List Nat:=gJoin ps [p]
theorem up_one (p:Nat):Up 0 [p]:=⟨Nat.zero_le _,trivial⟩
theorem lt_one {p:Nat}(h:p<256):∀ q∈[p],q<256:=fun q hq=>by
 have:q=p:=by simpa using hq
 omega
theorem shl_one (p:Nat):(1:Int)*2^((p:Nat):Int).toNat=((wd [p]:Nat):Int):=by
 rw [Int.toNat_natCast,Int.one_mul];show (2:Int)^p=((2^p+0:Nat):Int)
 rw [Nat.add_zero,Int.natCast_pow];rfl
def spIsWhole:Sp:=fun vs H Q _=>∃ i:Int,vs=[.int i]∧Q (.bl true) H
def spChk:Sp:=fun vs H Q _=>∃ n:Nat,vs=[.int n]∧n≤65535∧Q .non H
section
variable {P:Program}{w:World}{K:PySem.W.Frag}{mg:Str→Option Value}{base:Heap}
theorem ZhI (B:Blt mg)(d:DefAt K mg "is_whole" Zc2 ["thing"]):FnAt P w K mg base "is_whole" ["thing"] 1 spIsWhole:=by
 refine FnAt.of d ZhO (fun vs H Q E h=>?_) (fun f cdv A outer s H vs Q E hr h=>?_)
 · obtain ⟨k,rfl,_⟩:=h
   rfl
 obtain ⟨k,rfl,q⟩:=h;refine ⟨_,(Zae (Zam (ZdF (ZaF (ZdJ K) rfl B.isi ZeN (Zaa (pv 0) (Zaa (Zgo (v:=.ty "int") rfl B.int boot_int rfl) Zab))) (Zew (pe_not (ZaF (ZdJ K) rfl B.isi ZeN (Zaa (pv 0) (Zaa (Zgo (v:=.ty "bool") rfl B.bool boot_bool rfl) Zab)))))))),?_⟩;walk_at "vc";exact q
theorem ok_check (cG:∃ t,mg "GREATEST"=some (.int 65535 t))(h_is_whole:FnAt P w K mg base "is_whole" ["thing"] 1 spIsWhole)(d:DefAt K mg "check_number" ZbH ["thing"]):FnAt P w K mg base "check_number" ["thing"] 2 spChk:=by
 obtain ⟨tG,c_GREATEST⟩:=cG;refine FnAt.of d Zd6 (fun vs H Q E h=>?_) (fun f cdv A outer s H vs Q E hr h=>?_)
 · obtain ⟨k,rfl,_⟩:=h
   rfl
 obtain ⟨n,rfl,hn,q⟩:=h;refine ⟨_,(Zae (ZaK (PW.pt (ZdX (ZaZ (ZaO (Zad h_is_whole (hr.mono (by decide)) rfl (Zaa (pv 0) Zab)))) (ZcO (ZaZ (pt_chain ZhK ZhK Zaf (pv 0) (ZaY (v:=.int 65535) rfl c_GREATEST ⟨_,rfl⟩)))))) (Zae (ps_never)) Zay)),?_⟩;walk_at "vc";refine ⟨_,rfl,_,rfl,?_⟩;rw [if_neg (by decide),if_pos (by omega),if_pos (by omega)];exact q
end
theorem ZeU (xs:List V)(k:Nat):cutV xs none (some (k:Int))=xs.take k:=by
 unfold cutV;rw [HT.sIx_none,HT.sIx_nat,List.drop_zero,Nat.sub_zero];rcases Nat.le_total k xs.length with h | h
 · rw [Nat.min_eq_left h]
 · rw [Nat.min_eq_right h,List.take_length,List.take_of_length_le h]
theorem ZhP (xs:List V)(k:Nat):cutV xs (some (k:Int)) none=xs.drop k:=by
 unfold cutV;rw [HT.sIx_none,HT.sIx_nat];rcases Nat.le_total k xs.length with h | h
 · rw [Nat.min_eq_left h,List.take_of_length_le (by rw [List.length_drop];omega)]
 · rw [Nat.min_eq_right h,List.drop_of_length_le h,List.drop_length,List.take_nil]
def spHKt (ts:Tabs)(pr:Int→Int→Bool)(df:Int):Sp:=fun vs H Q _=>∃ (a:Addr) (ks:List Int) (y:Int),vs=[.ref a,.int y]∧noT H a=some (.lst (ks.map V.int))∧ks.length≤1000∧Pre (pr y) ks∧Tbs ts H ∧
 ∀ t l H',Nx ts H H'→noT H t=none→noT H l=none→noT H' t=some (.tup [.int ((cnt (pr y) ks:Int)-df),.ref l])→noT H' l=some (.lst (pint (halv 0 ks.length (cnt (pr y) ks))))→Q (.ref t) H'
theorem hkT {ts:Tabs}{pr:Int→Int→Bool}{df:Int}{c P1:Addr}{qual:Str}{lp:Pos}(u:TabsUq ts)(hm:(P1,qual,lp)∈ts):∀ vs H Q E,spHKt ts pr df vs H Q E→spHK pr df c P1 qual lp vs H Q E:=by rintro vs H Q E ⟨a,ks,y,rfl,ha,hl,hp,hT,q⟩;exact ⟨a,ks,y,rfl,(Zah ha).1,hl,hp,hT _ hm,fun t l H' s t' f1 f2 h1 h2=>q t l H' (Tbs.grow u hT hm s t') (Zb2 f1) (Zb2 f2) (Zaq h1 (nt _)) (Zaq h2 (nl _))⟩
theorem pre_of {p:Int→Bool} (hd:∀ a b:Int,a<b→p b=true→p a=true):∀ {ks:List Int},ks.Pairwise (·<·)→Pre p ks
 | [],_=>fun i k h=>by cases h
 | x :: r,h=>by
   obtain ⟨h1,h2⟩:=List.pairwise_cons.mp h;cases hp:p x with
   | false =>
     have no:∀ k∈x::r,p k=false:=fun k hk=>by
       rcases List.mem_cons.mp hk with rfl | hk
       · exact hp
       · cases q:p k with
         | false=>rfl
         | true=>rw [hd x k (h1 k hk) q] at hp;cases hp
     have c0:cnt p (x::r)=0:=by unfold cnt;rw [List.length_eq_zero_iff,List.filter_eq_nil_iff];intro k hk;rw [no k hk];decide
     intro i k hk;rw [c0,no k (List.mem_of_getElem? hk)];simp
   | true =>
     have c1:cnt p (x::r)=cnt p r+1:=by unfold cnt;rw [List.filter_cons,if_pos hp];rfl
     intro i k hk;rw [c1];cases i with
     | zero=>cases (show x=k from Option.some.inj hk);rw [hp];simp
     | succ i =>
       rw [pre_of hd h2 i k hk];simp
theorem ZbW (ps:List Nat):pint ps=(ps.map fun (p:Nat)=>(p:Int)).map V.int:=by unfold pint;rw [List.map_map];rfl
theorem Zge:∀ {a:Nat} {ps:List Nat},Up a ps→(ps.map fun (p:Nat)=>(p:Int)).Pairwise (·<·)
 | _,[],_=>.nil
 | a,p::r,h=>by
   refine List.pairwise_cons.mpr ⟨fun y hy=>?_,Zge h.2⟩;obtain ⟨x,hx,rfl⟩:=List.mem_map.mp hy;have:=Up.of_lt h.2 x hx;show (p:Int)<(x:Int);omega
theorem cnt_lo (k:Nat)(es:List Ent):cnt (fun x=>decide (x<(k:Int))) ((kys es).map fun (p:Nat)=>(p:Int))=(loE k es).length:=by unfold cnt kys loE;rw [List.map_map,List.filter_map,List.length_map];refine congrArg List.length (List.filter_congr fun e _=>?_);show decide ((e.key:Int)<(k:Int))=decide (e.key<k);rw [decide_eq_decide];omega
theorem Zb0 {es:List Ent}(h:EsOk es):es.length≤256:=by
 have:=Up.lt256 h.up fun p hp=>by obtain ⟨e,he,rfl⟩:=List.mem_map.mp hp;exact h.klt e he
 unfold kys at this;rw [List.length_map] at this;exact this
theorem get_lo {es:List Ent}(k:Nat)(h:EsOk es):es[(loE k es).length]?=(miE k es++hiE k es).head?:=by
 have hs:es=loE k es++(miE k es++hiE k es):=by rw [← List.append_assoc];exact split k h.up
 have:(loE k es++(miE k es++hiE k es))[(loE k es).length]?=(miE k es++hiE k es).head?:=by rw [List.getElem?_append_right (Nat.le_refl _),Nat.sub_self,List.head?_eq_getElem?]
 rw [← hs] at this;exact this
theorem Zi6 {es:List Ent}(k:Nat)(h:EsOk es):es.take (loE k es).length=loE k es:=by
 have hs:es=loE k es++(miE k es++hiE k es):=by rw [← List.append_assoc];exact split k h.up
 have:(loE k es++(miE k es++hiE k es)).take (loE k es).length=loE k es:=List.take_left;rw [← hs] at this;exact this
theorem drop_lo {es:List Ent}(k:Nat)(h:EsOk es):es.drop (loE k es).length=miE k es++hiE k es:=by
 have hs:es=loE k es++(miE k es++hiE k es):=by rw [← List.append_assoc];exact split k h.up
 have:(loE k es++(miE k es++hiE k es)).drop (loE k es).length=miE k es++hiE k es:=List.drop_left;rw [← hs] at this;exact this
theorem len_lo {es:List Ent}(k:Nat):(loE k es).length≤es.length:=List.length_filter_le _ _
theorem ZiQ {ks:List Nat}{i x:Nat}(h:ks[i]?=some x):atI (pint ks) (i:Int)=some (.int (x:Nat)):=Zej (by unfold pint;rw [List.getElem?_map,h];rfl)
theorem Zgp {es:List Ent}{i:Nat}{e:Ent}(h:es[i]?=some e):(kys es)[i]?=some e.key:=by unfold kys;rw [List.getElem?_map,h];rfl
structure MkAt (c:Kd→Addr)(CM:Addr)(H:Hp)(m:Addr)(es:List Ent):Prop where
 ex:∃ dx kd ah sr:Addr,H m=some (.ins CM dx [("keyed",.ref kd),("aheads",.ref ah),("stretches",.ref sr),("held",.int (tot es:Nat))])∧H kd=some (.lst (pint (kys es)))∧H ah=some (.lst (pint (ahs 0 es)))∧H sr=some (.lst (es.map fun e=>V.ref e.loc))
 st:∀ e∈es,StAt c (kdOf e.ps) H e.loc e.ps
theorem MkAt.same {c:Kd→Addr}{CM:Addr}{H H':Hp}{m:Addr}{es:List Ent}(h:MkAt c CM H m es)(s:Same H H'):MkAt c CM H' m es:=by obtain ⟨⟨dx,kd,ah,sr,h1,h2,h3,h4⟩,st⟩:=h;exact ⟨⟨dx,kd,ah,sr,s _ _ h1,s _ _ h2,s _ _ h3,s _ _ h4⟩,fun e he=>(st e he).same s⟩
def noM (fs:List (Str × V)):Prop:=fs.lookup (Str.ofString "found")=none∧fs.lookup (Str.ofString "stands")=none∧fs.lookup (Str.ofString "ahead_of")=none∧fs.lookup (Str.ofString "stretch_at")=none∧fs.lookup (Str.ofString "keep")=none∧fs.lookup (Str.ofString "has")=none∧fs.lookup (Str.ofString "put")=none∧fs.lookup (Str.ofString "take")=none∧fs.lookup (Str.ofString "below")=none∧fs.lookup (Str.ofString "below_looks")=none∧fs.lookup (Str.ofString "numbers")=none∧fs.lookup (Str.ofString "many")=none∧fs.lookup (Str.ofString "chosen")=none∧fs.lookup (Str.ofString "onward")=none∧fs.lookup (Str.ofString "backward")=none∧fs.lookup (Str.ofString "word_at")=none
theorem noM_of (a b d e:V):noM [("keyed",a),("aheads",b),("stretches",d),("held",e)]:=⟨rfl,rfl,rfl,rfl,rfl,rfl,rfl,rfl,rfl,rfl,rfl,rfl,rfl,rfl,rfl,rfl⟩
theorem MkAt.obj {c:Kd→Addr}{CM:Addr}{H:Hp}{m:Addr}{es:List Ent}(h:MkAt c CM H m es):∃ dx fs,H m=some (.ins CM dx fs)∧noM fs:=by obtain ⟨dx,kd,ah,sr,h1,_⟩:=h.ex;exact ⟨dx,_,h1,noM_of _ _ _ _⟩
def stV (k:Nat)(es:List Ent):V:=match miE k es with
 | []=>.non
 | e::_=>.ref e.loc
def spFound (c:Kd→Addr)(CM:Addr)(ts:Tabs):Sp:=fun vs H Q _=>∃ (m:Addr) (k:Nat) (es:List Ent),vs=[.ref m,.int k]∧MkAt c CM (noT H) m es∧EsOk es∧Tbs ts H∧∀ H',Nx ts H H'→Q (.int (loE k es).length) H'
def spStands (c:Kd→Addr)(CM:Addr):Sp:=fun vs H Q _=>∃ (m:Addr) (k:Nat) (es:List Ent),vs=[.ref m,.int (loE k es).length,.int k]∧MkAt c CM (noT H) m es∧EsOk es∧Q (.bl (decide (miE k es≠[]))) H
def spAhead (c:Kd→Addr)(CM:Addr):Sp:=fun vs H Q _=>∃ (m:Addr) (i:Nat) (es:List Ent),vs=[.ref m,.int i]∧MkAt c CM (noT H) m es∧i≤es.length∧Q (.int (tot (es.take i):Nat)) H
def spStAt (c:Kd→Addr)(CM:Addr)(ts:Tabs):Sp:=fun vs H Q _=>∃ (m:Addr) (k:Nat) (es:List Ent),vs=[.ref m,.int k]∧MkAt c CM (noT H) m es∧EsOk es∧Tbs ts H∧∀ H',Nx ts H H'→Q (stV k es) H'
section
variable {P:Program}{w:World}{K:PySem.W.Frag}{mg:Str→Option Value}{base:Heap}{c:Kd→Addr}{CM:Addr}{ts:Tabs}
theorem ok_found (h_halved_keys:FnAt P w K mg base "halved_keys" ["keys","key"] 3 (spHKt ts (fun y k=>decide (k<y)) 0))(cd:CD_Marks K mg CM):MethAt P w K mg base CM "found" ["self","key"] 4 (spFound c CM ts):=by
 refine MethAt.of cd.c cd.m_found ZeP (fun vs H Q E h=>?_) (fun f cdv A outer s H vs Q E hr h=>?_)
 · obtain ⟨m,k,es,rfl,_⟩:=h
   rfl
 obtain ⟨m,k,es,rfl,hm,ok,ht,q⟩:=h;obtain ⟨dx,kd,ah,sr,h1,h2,h3,h4⟩:=hm.ex;refine ⟨_,(Zae (Zam (Zci (ix_tupK K) (Zad h_halved_keys (hr.mono (by decide)) rfl (Zaa (Zau K (pv 0)) (Zaa (pv 1) Zab))) Zaf (fun _ _=>rfl)))),?_⟩;walk_at "vc";refine ⟨_,_,_,(Zah h1).1,cd.c,cd.n_keyed,.ref kd,rfl,kd,_,k,rfl,by rw [h2,ZbW],?_,pre_of (fun a b h p=>decide_eq_true (Int.lt_trans h (of_decide_eq_true p))) (Zge ok.up),ht,fun t l H' nx f1 f2 g1 g2=>?_⟩
 · have:=Zb0 ok
   rw [List.length_map];unfold kys;rw [List.length_map];omega
 · refine ⟨t,rfl,_,SqT.of (Zah g1).1,_,rfl,?_⟩
   rw [cnt_lo,Int.sub_zero];exact q H' nx
theorem ZjT (B:Blt mg) (cd:CD_Marks K mg CM):MethAt P w K mg base CM "stands" ["self","at","key"] 1 (spStands c CM):=by
 refine MethAt.of cd.c cd.m_stands Zd9 (fun vs H Q E h=>?_) (fun f cdv A outer s H vs Q E hr h=>?_)
 · obtain ⟨m,k,es,rfl,_⟩:=h
   rfl
 obtain ⟨m,k,es,rfl,hm,ok,q⟩:=h;obtain ⟨dx,kd,ah,sr,h1,h2,h3,h4⟩:=hm.ex;refine ⟨_,(Zae (Zam (ZdF (Zbs ZfM (pv 1) (ZaF (Za7 K) rfl B.len PySem.boot_len (Zaa (Zau K (pv 0)) Zab)) (nomark _)) (Zew (Zbs ZbO (Zci (ZaU K) (Zau K (pv 0)) (pv 1) (fun _ _=>rfl)) (pv 2) (nomark _)))))),?_⟩;walk_at "vc";have hkd:=(Zah h2).1;have hm1:=(Zah h1).1;refine ⟨_,_,_,hm1,cd.c,cd.n_keyed,.ref kd,rfl,kd,rfl,_,.inl (SqL.of hkd),?_⟩;have lk:(pint (kys es)).length=es.length:=by rw [Zal];unfold kys;rw [List.length_map]
 rw [lk];have g:=get_lo k ok;by_cases lt:(loE k es).length<es.length
 · rw [if_pos (by omega)]
   rw [List.getElem?_eq_getElem lt] at g;have ge:es[(loE k es).length]?=some es[(loE k es).length]:=List.getElem?_eq_getElem lt;refine ⟨_,_,_,hm1,cd.c,cd.n_keyed,.ref kd,rfl,kd,rfl,_,SqL.of hkd,_,ZiQ (Zgp ge),rfl,?_⟩;have e:decide (V.int ((es[(loE k es).length].key:Nat):Int)=V.int (k:Int))=decide (miE k es≠[]):=by
     rcases Zcu k ok.up with z | ⟨e,z1,z2,z3⟩
     · rw [z,List.nil_append] at g
       have hh:es[(loE k es).length]∈hiE k es:=List.mem_of_head? g.symm;have:=(Zgh hh).2;rw [decide_eq_false (by simp;omega),decide_eq_false (by simp [z])]
     · rw [z1] at g
       have:es[(loE k es).length]=e:=Option.some.inj g;rw [this,z2,z1];simp
   rw [e];exact q
 · rw [if_neg (by omega)]
   have z:miE k es=[]:=by rw [List.getElem?_eq_none (by omega)] at g;have:=List.head?_eq_none_iff.mp g.symm;exact (List.append_eq_nil_iff.mp this).1
   rw [decide_eq_false (by simp [z])] at q;exact q
theorem ok_ahead (B:Blt mg)(cd:CD_Marks K mg CM):MethAt P w K mg base CM "ahead_of" ["self","at"] 1 (spAhead c CM):=by
 refine MethAt.of cd.c cd.m_ahead_of Zda (fun vs H Q E h=>?_) (fun f cdv A outer s H vs Q E hr h=>?_)
 · obtain ⟨m,k,es,rfl,_⟩:=h
   rfl
 obtain ⟨m,i,es,rfl,hm,hi,q⟩:=h;obtain ⟨dx,kd,ah,sr,h1,h2,h3,h4⟩:=hm.ex;refine ⟨_,(Zae (Zam (ZbY (Zat ZfM (pv 1) (ZaF (Za7 K) rfl B.len PySem.boot_len (Zaa (Zau K (pv 0)) Zab)) (nomark _)) (Zci (ZaU K) (Zau K (pv 0)) (pv 1) (fun _ _=>rfl)) (Zau K (pv 0))))),?_⟩;walk_at "vc";have hah:=(Zah h3).1;have hm1:=(Zah h1).1;refine ⟨_,_,_,hm1,cd.c,cd.n_aheads,.ref ah,rfl,ah,rfl,_,.inl (SqL.of hah),?_⟩;rw [Zal,ZbB];by_cases lt:i<es.length
 · rw [if_pos (by omega)]
   have g:=ZiT 0 es i lt;rw [Nat.zero_add] at g;exact ⟨_,_,_,hm1,cd.c,cd.n_aheads,.ref ah,rfl,ah,rfl,_,SqL.of hah,_,ZiQ g,q⟩
 · rw [if_neg (by omega)]
   rw [List.take_of_length_le (by omega)] at q;exact ⟨_,_,_,hm1,cd.c,cd.n_held,_,rfl,q⟩
theorem Zfe (h_found:MethAt P w K mg base CM "found" ["self","key"] 4 (spFound c CM ts))(h_stands:MethAt P w K mg base CM "stands" ["self","at","key"] 1 (spStands c CM))(cd:CD_Marks K mg CM):MethAt P w K mg base CM "stretch_at" ["self","key"] 5 (spStAt c CM ts):=by
 refine MethAt.of cd.c cd.m_stretch_at sc_Marks_stretch_at (fun vs H Q E h=>?_) (fun f cdv A outer s H vs Q E hr h=>?_)
 · obtain ⟨m,k,es,rfl,_⟩:=h
   rfl
 obtain ⟨m,k,es,rfl,hm,ok,ht,q⟩:=h;obtain ⟨dx,fs,ho,nf⟩:=hm.obj;refine ⟨_,(Zaj (Zao (i:=2) sc_Marks_stretch_at.nd rfl (by walk_at "l") (ZaP (P:=P) (w:=w) (K:=K) (mg:=mg) (base:=base) 4 (hr.mono (by decide)) (pv 0) (Zaa (pv 1) Zab)))
     (Zae (Zam (ZbY (ZaO (ZaP (P:=P) (w:=w) (K:=K) (mg:=mg) (base:=base) 1 (hr.mono (by decide)) (pv 0) (Zaa (pv 2) (Zaa (pv 1) Zab)))) (Zci (ZaU K) (Zau K (pv 0)) (pv 2) (fun _ _=>rfl)) Zc5)))),?_⟩
 walk_at "vc";refine ⟨_,_,_,(Zah ho).1,nf.1,_,_,h_found,m,k,es,rfl,hm,ok,ht,fun H' nx=>?_⟩;have hm2:=hm.same nx.same;refine ⟨_,_,_,(Zah (nx.at ho)).1,nf.2.1,_,_,h_stands,m,k,es,rfl,hm2,ok,_,rfl,?_⟩;have q:=q H' nx;unfold stV at q;have g:=get_lo k ok;rcases Zcu k ok.up with z | ⟨e,z1,z2,z3⟩
 · rw [z] at q
   rw [decide_eq_false (by simp [z]),if_neg (by decide)];exact q
 · rw [z1] at q g
   obtain ⟨dx2,kd,ah,sr,h1,h2,h3,h4⟩:=hm2.ex;rw [decide_eq_true (by simp [z1]),if_pos rfl];walk_at "vc";refine ⟨_,_,_,(Zah h1).1,cd.c,cd.n_stretches,.ref sr,rfl,sr,rfl,_,SqL.of (Zah h4).1,.ref e.loc,Zej (by rw [List.getElem?_map,g];rfl),q⟩
end
def KeptA (c:Kd→Addr)(H:Hp)(ps:List Nat)(v:V)(a:Addr):Prop:=(ps=[]→v=.non)∧(ps≠[]→v=.ref a∧StAt c (kdOf ps) H a ps)
theorem KeptA.same {c:Kd→Addr}{H H':Hp}{ps:List Nat}{v:V}{a:Addr}(h:KeptA c H ps v a)(s:Same H H'):KeptA c H' ps v a:=⟨h.1,fun e=>⟨(h.2 e).1,(h.2 e).2.same s⟩⟩
theorem tups_noT {H:Hp}{vs:List V}{rs:List (Nat × Nat)}(h:Tups H vs rs):Tups (noT H) vs rs:=Paired.mapP h fun _ _ ⟨t,e,ht⟩=>⟨t,e,Zaq ht (nt _)⟩
theorem StAt.noT {c:Kd→Addr}{k:Kd}{H:Hp}{a:Addr}{ps:List Nat}(h:StAt c k H a ps):StAt c k (noT H) a ps:=by
 cases k with
 | l=>obtain ⟨dx,l,e,h⟩:=h;exact ⟨dx,l,Zaq e (ni _ _ _),Zaq h (nl _)⟩
 | b=>obtain ⟨dx,e⟩:=h;exact ⟨dx,Zaq e (ni _ _ _)⟩
 | r =>
   obtain ⟨dx,l,e,us,h,t⟩:=h;refine ⟨dx,l,Zaq e (ni _ _ _),us,Zaq h (nl _),?_⟩;exact tups_noT t
theorem KeptIs.noT {c:Kd→Addr}{H:Hp}{ps:List Nat}{v:V}(h:KeptIs c H ps v):KeptIs c (noT H) ps v:=⟨h.1,fun e=>let ⟨x,a,b⟩:=h.2 e;⟨x,a,b.noT⟩⟩
theorem rep_one (ps:List Nat)(y:V):(List.replicate (if ps=[] then 0 else 1:Int).toNat [y]).flatten=if ps=[] then [] else [y]:=by
 by_cases e:ps=[]
 · rw [if_pos e,if_pos e];rfl
 · rw [if_neg e,if_neg e];rfl
theorem drop_hi {es:List Ent}(k:Nat)(h:EsOk es):es.drop ((loE k es).length+(miE k es).length)=hiE k es:=by rw [← List.drop_drop,drop_lo k h,List.drop_left]
theorem ZgZ {es:List Ent}{k:Nat}{ps:List Nat}{a:Nat}(f:Ent→V){y:V}(h:EsOk es)(hy:ps≠[]→y=f ⟨k,ps,a⟩) :
   (es.map f).take (loE k es).length++(if ps=[] then [] else [y])++(es.map f).drop ((loE k es).length+(miE k es).length)=(keepE k ps a es).map f:=by
 rw [← List.map_take,← List.map_drop,Zi6 k h,drop_hi k h];unfold keepE;rw [List.map_append,List.map_append];by_cases e:ps=[]
 · rw [if_pos e,if_pos e];rfl
 · rw [if_neg e,if_neg e,hy e];rfl
theorem ZhG (es:List Ent):pint (kys es)=es.map fun e=>V.int (e.key:Nat):=by unfold pint kys;rw [List.map_map];rfl
theorem tot_mi {es:List Ent}(k:Nat)(h:EsOk es):tot es=tot (loE k es)+tot (miE k es)+tot (hiE k es):=by have:=congrArg tot (split k h.up);rw [ZaT,ZaT] at this;exact this
theorem ahs_take {es:List Ent}(k:Nat)(h:EsOk es):(pint (ahs 0 es)).take (loE k es).length=pint (ahs 0 (loE k es)):=by
 have hs:es=loE k es++(miE k es++hiE k es):=by rw [← List.append_assoc];exact split k h.up
 have:(pint (ahs 0 (loE k es++(miE k es++hiE k es)))).take (loE k es).length=pint (ahs 0 (loE k es)):=by rw [ZbF];unfold pint;rw [List.map_append,List.take_left' (by rw [List.length_map,ZbB])]
 rw [← hs] at this;exact this
theorem ahs_drop {es:List Ent}(k:Nat)(h:EsOk es):(pint (ahs 0 es)).drop ((loE k es).length+(miE k es).length)=pint (ahs (tot (loE k es)+tot (miE k es)) (hiE k es)):=by
 have hs:es=(loE k es++miE k es)++hiE k es:=split k h.up;have:(pint (ahs 0 ((loE k es++miE k es)++hiE k es))).drop ((loE k es).length+(miE k es).length)=pint (ahs (tot (loE k es)+tot (miE k es)) (hiE k es)):=by rw [ZbF];unfold pint;rw [List.map_append,List.drop_left' (by rw [List.length_map,ZbB,List.length_append]),ZaT,Nat.zero_add]
 rw [← hs] at this;exact this
theorem ahs_keep {es:List Ent}{k:Nat}{ps:List Nat}{a:Nat}:ahs 0 (keepE k ps a es)=ahs 0 (loE k es)++(if ps=[] then [] else [tot (loE k es)])++ahs (tot (loE k es)+ps.length) (hiE k es):=by
 unfold keepE;rw [ZbF,ZbF,ZaT];by_cases e:ps=[]
 · rw [if_pos e,if_pos e,e]
   show ahs 0 (loE k es)++[]++ahs (0+(tot (loE k es)+0)) (hiE k es)=_;rw [Nat.zero_add];rfl
 · rw [if_neg e,if_neg e]
   show ahs 0 (loE k es)++[0+tot (loE k es)]++ahs (0+(tot (loE k es)+(ps.length+0))) (hiE k es)=_;rw [Nat.zero_add,Nat.zero_add,Nat.add_zero]
theorem tot_keep {es:List Ent}{k:Nat}{ps:List Nat}{a:Nat}:tot (keepE k ps a es)=tot (loE k es)+ps.length+tot (hiE k es):=by
 unfold keepE;rw [ZaT,ZaT];by_cases e:ps=[]
 · rw [if_pos e,e];rfl
 · rw [if_neg e];rfl
theorem ZgC {es:List Ent}(k:Nat)(h:EsOk es):tot (es.take ((loE k es).length+(miE k es).length))=tot (loE k es)+tot (miE k es):=by have hs:es=(loE k es++miE k es)++hiE k es:=split k h.up;have:((loE k es++miE k es)++hiE k es).take ((loE k es).length+(miE k es).length)=loE k es++miE k es:=List.take_left' (by rw [List.length_append]);rw [← hs] at this;rw [this,ZaT]
section
variable {K:PySem.W.Frag}{m C dx l:Addr}{fs:List (Str × V)}{f:Str}{xs:List V}{n:Nat}{v1 v2 v3 v4 v5 v6 v7:Option V}{H:Hp}{Q:VK}
theorem cat_a {i:Nat}{y:V}{ps:List Nat}(hc:Cls K C)(hna:NoAttr K C f)(ho:H m=some (.ins C dx fs))(hf:fs.lookup f=some (.ref l))(hl:H l=some (.lst xs))(lx:xs.length≤900)(hi:[some (.ref m),v1,v2,some (.int (n:Nat)),v4,v5,v6,some (.int (if ps=[] then 0 else 1))][i]?=some (some y))
   (q:∀ p H',Same H H'→H p=none→H' p=some (.lst (xs.take n++(if ps=[] then [] else [y])))→Q (.ref p) H') :
   tOp rCat (tSl (rSlL K) (tFld K (tVar 0) f) tNoPart (tPart (tVar 3))) (tOp rRep (tLst (tCons (tVar i) tNil)) (tVar 7)) [some (.ref m),v1,v2,some (.int (n:Nat)),v4,v5,v6,some (.int (if ps=[] then 0 else 1))] H Q:=by
 simp only [Ze0,ZfV,Zem,Zdh,Zb7,Zde,Zei,Zgi,Zeo,Zgr,Zgx,Zed];refine ⟨_,rfl,_,_,_,_,_,rfl,ho,hc,hna,hf,_,rfl,_,rfl,_,_,rfl,SqL.of hl,fun p1 n1=>⟨y,hi,by show 1≤sizeLine;decide,fun p2 n2=>⟨_,rfl,?_⟩⟩⟩;rw [ZeU] at n2 ⊢;have s1:=Same.new (o:=.lst (xs.take n)) n1;have g1:upd H p1 (.lst (xs.take n)) p1=some (.lst (xs.take n)):=Zac;generalize upd H p1 (.lst (xs.take n))=H1 at n2 s1 g1 ⊢;have s2:=Same.new (o:=.lst [y]) n2;have g2:upd H1 p2 (.lst [y]) p2=some (.lst [y]):=Zac;have g1:=s2 _ _ g1;generalize upd H1 p2 (.lst [y])=H2 at s2 g1 g2 ⊢;refine ⟨_,_,_,rfl,rfl,g2,?_,?_,?_,fun p3 n3=>?_⟩
 · split<;>decide
 · split<;>decide
 · show 1*_≤sizeLine
   split<;>decide
 rw [rep_one];have s3:=Same.new (o:=.lst (if ps=[] then [] else [y])) n3;have g3:upd H2 p3 (.lst (if ps=[] then [] else [y])) p3=some (.lst (if ps=[] then [] else [y])):=Zac;have g1:=s3 _ _ g1;generalize upd H2 p3 (.lst (if ps=[] then [] else [y]))=H3 at s3 g1 g3 ⊢;refine ⟨_,_,_,_,rfl,rfl,g1,g3,?_,fun p4 n4=>?_⟩
 · have:(if ps=[] then [] else [y]).length≤1:=by split<;>simp
   rw [List.length_take];exact Nat.le_of_lt (small1000 (by omega))
 · have S:=s1.trans (s2.trans s3)
   exact q p4 _ (S.trans (Same.new n4)) (S.free n4) Zac
theorem cat_b (hc:Cls K C)(hna:NoAttr K C f)(ho:H m=some (.ins C dx fs))(hf:fs.lookup f=some (.ref l))(hl:H l=some (.lst xs))(q:∀ p H',Same H H'→H p=none→H' p=some (.lst (xs.drop n))→Q (.ref p) H') :
   tSl (rSlL K) (tFld K (tVar 0) f) (tPart (tVar 4)) tNoPart [some (.ref m),v1,v2,v3,some (.int (n:Nat)),v5,v6,v7] H Q:=by
 simp only [ZfV,Zem,Zdh,Zb7,Zde,Zei];refine ⟨_,rfl,_,_,_,_,_,rfl,ho,hc,hna,hf,_,rfl,_,rfl,_,_,rfl,SqL.of hl,fun p1 n1=>?_⟩;rw [ZhP];exact q _ _ (Same.new n1) n1 Zac
theorem Zi1 {i j:Nat}{y:V}{ps:List Nat}{D:Ends}(hc:Cls K C)(hna:NoAttr K C f)(ho:H m=some (.ins C dx fs))(hf:fs.lookup f=some (.ref l))(hl:H l=some (.lst xs))(lx:xs.length≤400)(lf:fs.length<1000)(hi:[some (.ref m),v1,v2,some (.int (n:Nat)),some (.int (j:Nat)),v5,v6,some (.int (if ps=[] then 0 else 1))][i]?=some (some y))
   (q:∀ p H',Same H H'→H p=none→H' p=some (.lst (xs.take n++(if ps=[] then [] else [y])++xs.drop j))→D.nx [some (.ref m),v1,v2,some (.int (n:Nat)),some (.int (j:Nat)),v5,v6,some (.int (if ps=[] then 0 else 1))] (upd H' m (.ins C dx (putF f (.ref p) fs)))) :
   sFld K (tVar 0) (tOp rCat (tOp rCat (tSl (rSlL K) (tFld K (tVar 0) f) tNoPart (tPart (tVar 3))) (tOp rRep (tLst (tCons (tVar i) tNil)) (tVar 7))) (tSl (rSlL K) (tFld K (tVar 0) f) (tPart (tVar 4)) tNoPart)) f D [some (.ref m),v1,v2,some (.int (n:Nat)),some (.int (j:Nat)),v5,v6,some (.int (if ps=[] then 0 else 1))] H:=by
 rw [Zef,Ze0];refine cat_a hc hna ho hf hl (by omega) hi fun p1 H1 s1 n1 g1=>cat_b hc hna (s1 _ _ ho) hf (s1 _ _ hl) fun p2 H2 s2 n2 g2=>?_
 rw [Zed];refine ⟨_,_,_,_,rfl,rfl,s2 _ _ g1,g2,?_,fun p3 n3=>?_⟩
 · have:(if ps=[] then [] else [y]).length≤1:=by split<;>simp
   rw [List.length_append,List.length_take,List.length_drop];exact Nat.le_of_lt (small1000 (by omega))
 · have S:=s1.trans s2
   have S3:=S.trans (Same.new (o:=.lst (xs.take n++(if ps=[] then [] else [y])++xs.drop j)) n3);simp only [Zdh];exact ⟨_,rfl,_,_,_,_,rfl,S3 _ _ ho,hc,hna,lf,q p3 _ S3 (S.free n3) Zac⟩
end
def Four (o:HO):Prop:=∃ C dx a b d e,o=.ins C dx [("keyed",a),("aheads",b),("stretches",d),("held",e)]
theorem StAt.nb {c:Kd→Addr}{k:Kd}{H H':Hp}{m x:Addr}{ps:List Nat}{o:HO}(h:StAt c k H x ps)(hm:H m=some o)(f:Four o)(s:∀ b o,b≠m→H b=some o→H' b=some o):StAt c k H' x ps:=by
 obtain ⟨C,dx0,f1,f2,f3,f4,rfl⟩:=f;cases k with
 | l =>
   obtain ⟨dx,l,e,h⟩:=h;refine ⟨dx,l,s _ _ (fun z=>?_) e,s _ _ (fun z=>?_) h⟩
   · rw [z,hm] at e;cases e
   · rw [z,hm] at h;cases h
 | b =>
   obtain ⟨dx,e⟩:=h;refine ⟨dx,s _ _ (fun z=>?_) e⟩;rw [z,hm] at e;cases e
 | r =>
   obtain ⟨dx,l,e,us,h,t⟩:=h;refine ⟨dx,l,s _ _ (fun z=>?_) e,us,s _ _ (fun z=>?_) h,Paired.mapP t fun _ _ ⟨t,e,ht⟩=>⟨t,e,s _ _ (fun z=>?_) ht⟩⟩
   · rw [z,hm] at e;cases e
   · rw [z,hm] at h;cases h
   · rw [z,hm] at ht;cases ht
theorem MkAt.four {c:Kd→Addr}{CM:Addr}{H:Hp}{m:Addr}{es:List Ent}(h:MkAt c CM H m es):∃ o,H m=some o∧Four o:=by obtain ⟨dx,kd,ah,sr,h1,_⟩:=h.ex;exact ⟨_,h1,_,_,_,_,_,_,rfl⟩
def fAdd (m:Int):V→V
 | .int c=>.int (c+m)
 | v=>v
theorem Zj4 (m:Int)(zs:List Nat):(pint zs).map (fAdd m)=zs.map fun (x:Nat)=>V.int ((x:Int)+m):=by unfold pint;rw [List.map_map];rfl
def spKeep (c:Kd→Addr)(CM:Addr)(ts:Tabs):Sp:=fun vs H Q _=>∃ (m:Addr) (k:Nat) (es:List Ent) (ps:List Nat) (v:V) (a:Addr),vs=[.ref m,.int k,v]∧MkAt c CM (noT H) m es∧EsOk es∧KeptA c (noT H) ps v a∧Up 0 ps∧(∀ p∈ps,p<256)∧Tbs ts H∧∀ H',Nb ts m H H'→MkAt c CM (noT H') m (keepE k ps a es)→Q .non H'
section
variable {P:Program}{w:World}{K:PySem.W.Frag}{mg:Str→Option Value}{base:Heap}{c:Kd→Addr}{CM:Addr}{ts:Tabs}
theorem ok_keep (h_found:MethAt P w K mg base CM "found" ["self","key"] 4 (spFound c CM ts))(h_stands:MethAt P w K mg base CM "stands" ["self","at","key"] 1 (spStands c CM))(h_ahead:MethAt P w K mg base CM "ahead_of" ["self","at"] 1 (spAhead c CM))(hn:∀ k,MethAt P w K mg base (c k) "many" ["self"] 5 (spManyM c k))(cd:CD_Marks K mg CM):MethAt P w K mg base CM "keep" ["self","key","stretch"] 6 (spKeep c CM ts):=by
 refine MethAt.of cd.c cd.m_keep sc_Marks_keep (fun vs H Q E h=>?_) (fun f cdv A outer s H vs Q E hr h=>?_)
 · obtain ⟨m,k,es,ps,v,a,rfl,_⟩:=h
   rfl
 obtain ⟨m,k,es,ps,v,a,rfl,hm,ok,hv,up,lt,ht,q⟩:=h;obtain ⟨dx,fs,ho,nf⟩:=hm.obj;refine ⟨_,(Zaj (Zao (i:=3) sc_Marks_keep.nd rfl (by walk_at "l") (ZaP (P:=P) (w:=w) (K:=K) (mg:=mg) (base:=base) 4 (hr.mono (by decide)) (pv 0) (Zaa (pv 1) Zab)))
     (Zaw (Zao (i:=4) sc_Marks_keep.nd rfl (by walk_at "l") (ZbY (ZaO (ZaP (P:=P) (w:=w) (K:=K) (mg:=mg) (base:=base) 1 (hr.mono (by decide)) (pv 0) (Zaa (pv 3) (Zaa (pv 1) Zab)))) (Zai ZaA (pv 3) Zaf) (pv 3)))
     (Zaj (Zao (i:=5) sc_Marks_keep.nd rfl (by walk_at "l") (ZaP (P:=P) (w:=w) (K:=K) (mg:=mg) (base:=base) 1 (hr.mono (by decide)) (pv 0) (Zaa (pv 3) Zab)))
     (Zaw (Zao (i:=6) sc_Marks_keep.nd rfl (by walk_at "l") (Zai Zcd (ZbY (Zat Zh7 (pv 2) Zc5 (nomark _)) Zaf (ZaC (P:=P) (w:=w) (K:=K) (mg:=mg) (base:=base) 5 (hr.mono (by decide)) (pv 2))) (Zai Zcd (ZaP (P:=P) (w:=w) (K:=K) (mg:=mg) (base:=base) 1 (hr.mono (by decide)) (pv 0) (Zaa (pv 4) Zab)) (pv 5))))
     (Zaw (Zao (i:=7) sc_Marks_keep.nd rfl (by walk_at "l") (ZbY (Zat Zh7 (pv 2) Zc5 (nomark _)) Zaf Zaf))
     (Zaw (Zbk K (pv 0) (Zai Zc7 (Zai Zc7 (Zba (Zbf K) (Zau K (pv 0)) ZbQ (Zbu (pv 3))) (Zai ZiF (Za1 (Zaa (pv 1) Zab)) (pv 7))) (Zba (Zbf K) (Zau K (pv 0)) (Zbu (pv 4)) ZbQ)))
     (Zaw (Zbk K (pv 0) (Zai Zc7 (Zai Zc7 (Zba (Zbf K) (Zau K (pv 0)) ZbQ (Zbu (pv 3))) (Zai ZiF (Za1 (Zaa (pv 5) Zab)) (pv 7))) (Zbq ["each"] [6] rfl (ZaG K (Zba (Zbf K) (Zau K (pv 0)) (Zbu (pv 4)) ZbQ)) (fun _ _ _ _ _=>Zas (i:=0) (by show List.Nodup (["each","more"]:List Str);decide +kernel) rfl (Or.inl rfl)) (fun _ _ _ _ _=>Zbi) (fun _ _ _ _ _=>(Zai ZaA (pv 0) (pv 1))) ⟨⟨_,rfl,rfl,.inl rfl⟩,trivial⟩ ZaH)))
     (Zaw (Zbk K (pv 0) (Zai Zc7 (Zai Zc7 (Zba (Zbf K) (Zau K (pv 0)) ZbQ (Zbu (pv 3))) (Zai ZiF (Za1 (Zaa (pv 2) Zab)) (pv 7))) (Zba (Zbf K) (Zau K (pv 0)) (Zbu (pv 4)) ZbQ)))
     (Zae (Zbk K (pv 0) (Zai ZaA (Zau K (pv 0)) (pv 6)))))))))))),?_⟩
 have ll:=len_lo (es:=es) k;have lm:(loE k es).length+(miE k es).length≤es.length:=by have:=congrArg List.length (split k ok.up);rw [List.length_append,List.length_append] at this;omega
 walk_at "vc";refine ⟨_,_,_,(Zah ho).1,nf.1,_,_,h_found,m,k,es,rfl,hm,ok,ht,fun H1 nx=>?_⟩;refine ⟨fun σ H2=>σ=[some (.ref m),some (.int k),some v,some (.int (loE k es).length),some (.int (((loE k es).length+(miE k es).length:Nat):Int)),none,none,none]∧H2=H1,?_,?_⟩
 · have hm2:=hm.same nx.same
   have ho:=nx.at ho;walk_at "vc";refine ⟨_,_,_,(Zah ho).1,nf.2.1,_,_,h_stands,m,k,es,rfl,hm2,ok,_,rfl,?_⟩;rcases Zcu k ok.up with z | ⟨e,z1,z2,z3⟩
   · rw [decide_eq_false (by simp [z]),if_neg (by decide),z]
     exact ⟨rfl,rfl⟩
   · rw [decide_eq_true (by simp [z1]),if_pos rfl,z1]
     walk_at "vc";show ((loE k es).length:Int)+1=(((loE k es).length+1:Nat):Int)
     omega
 rintro σ Ha ⟨rfl,rfl⟩;have hm:=hm.same nx.same;have hv:=hv.same nx.same;have ho:=nx.at ho;walk_at "vc";refine ⟨_,_,_,(Zah ho).1,nf.2.2.1,_,_,h_ahead,m,_,es,rfl,hm,ll,?_⟩;rw [Zi6 k ok];refine ⟨fun σ H2=>σ=[some (.ref m),some (.int k),some v,some (.int (loE k es).length),some (.int (((loE k es).length+(miE k es).length:Nat):Int)),some (.int (tot (loE k es):Nat)),some (.int ((ps.length:Int)-(tot (miE k es):Nat))),none]∧H2=Ha,?_,?_⟩
 · walk_at "vc"
   by_cases e0:ps=[]
   · rw [if_pos (hv.1 e0)]
     refine ⟨_,_,_,(Zah ho).1,nf.2.2.1,_,_,h_ahead,m,_,es,rfl,hm,lm,_,rfl,?_,rfl⟩;rw [ZgC k ok,e0];show 0-(((tot (loE k es)+tot (miE k es):Nat):Int)-_)=((0:Nat):Int)-_;omega
   · obtain ⟨rfl,st⟩:=hv.2 e0
     obtain ⟨dx2,fs2,ho2,nf2⟩:=(st.same noT_sub).obj;rw [if_neg (by intro z;cases z)];refine ⟨_,rfl,_,_,_,ho2,nf2.2.2.2.2.2.1,_,_,hn _,a,ps,rfl,st.same noT_sub,up,lt,?_⟩;refine ⟨_,_,_,(Zah ho).1,nf.2.2.1,_,_,h_ahead,m,_,es,rfl,hm,lm,_,rfl,_,rfl,?_,rfl⟩;rw [ZgC k ok];omega
 rintro σ Hb ⟨rfl,rfl⟩;refine ⟨fun σ H2=>σ=[some (.ref m),some (.int k),some v,some (.int (loE k es).length),some (.int (((loE k es).length+(miE k es).length:Nat):Int)),some (.int (tot (loE k es):Nat)),some (.int ((ps.length:Int)-(tot (miE k es):Nat))),some (.int (if ps=[] then 0 else 1))]∧H2=Hb,?_,?_⟩
 · walk_at "vc"
   by_cases e0:ps=[]
   · rw [if_pos (hv.1 e0),if_pos e0]
   · rw [if_neg (by rw [(hv.2 e0).1];intro z;cases z),if_neg e0]
 rintro σ Hc ⟨rfl,rfl⟩;obtain ⟨dx2,kd,ah,sr,h1,h2,h3,h4⟩:=hm.ex;have les:=Zb0 ok;have ln:=ZgZ (es:=es) (k:=k) (ps:=ps) (a:=a) (fun e=>V.ref e.loc) (y:=v) ok fun e=>(hv.2 e).1
 have lk:=ZgZ (es:=es) (k:=k) (ps:=ps) (a:=a) (fun e=>V.int (e.key:Nat)) (y:=V.int k) ok fun _=>rfl
 refine ⟨fun σ H2=>σ=[some (.ref m),some (.int k),some v,some (.int (loE k es).length),some (.int (((loE k es).length+(miE k es).length:Nat):Int)),some (.int (tot (loE k es):Nat)),some (.int ((ps.length:Int)-(tot (miE k es):Nat))),some (.int (if ps=[] then 0 else 1))]∧Nb ts m Hc H2 ∧
   ∃ kd',H2 m=some (.ins CM dx2 [("keyed",.ref kd'),("aheads",.ref ah),("stretches",.ref sr),("held",.int (tot es:Nat))])∧noT H2 kd'=some (.lst (pint (kys (keepE k ps a es)))),?_,?_⟩
 · refine Zi1 cd.c cd.n_keyed (Zah h1).1 rfl (Zah h2).1 (by rw [Zal];unfold kys;rw [List.length_map];omega) (by show 4<1000;decide) rfl fun p H' sm np hp=>⟨rfl,((nx.tb.nx sm).nb (m:=m)).put (sm _ _ (Zah h1).1) trivial,p,Zac,?_⟩
   have:p≠m:=fun z=>by rw [z,(Zah h1).1] at np;cases np
   refine Zaq ?_ (nl _);rw [Zag this,hp,ZhG,ZhG,lk]
 rintro σ H5 ⟨rfl,nb5,kd5,h51,h52⟩;have kdm:kd5≠m:=fun z=>by have:=(Zah h52).1;rw [z,h51] at this;cases this
 have ahm:ah≠m:=fun z=>by rw [z,h1] at h3;cases h3
 have srm:sr≠m:=fun z=>by rw [z,h1] at h4;cases h4
 have h53:=nb5.same _ _ ahm h3;have h54:=nb5.same _ _ srm h4;refine ⟨fun σ H2=>σ=[some (.ref m),some (.int k),some v,some (.int (loE k es).length),some (.int (((loE k es).length+(miE k es).length:Nat):Int)),some (.int (tot (loE k es):Nat)),some (.int ((ps.length:Int)-(tot (miE k es):Nat))),some (.int (if ps=[] then 0 else 1))]∧Nb ts m H5 H2 ∧
   ∃ ah',H2 m=some (.ins CM dx2 [("keyed",.ref kd5),("aheads",.ref ah'),("stretches",.ref sr),("held",.int (tot es:Nat))])∧noT H2 ah'=some (.lst (pint (ahs 0 (keepE k ps a es)))),?_,?_⟩
 · rw [Zef,Ze0]
   refine cat_a cd.c cd.n_aheads h51 rfl (Zah h53).1 (by rw [Zal,ZbB];omega) rfl fun p1 H6 s1 n1 g1=>?_
   walk_at "vc";refine ⟨_,_,_,s1 _ _ h51,cd.c,cd.n_aheads,.ref ah,rfl,ah,rfl,_,SqL.of (s1 _ _ (Zah h53).1),fun p2 n2=>?_⟩;rw [ZhP,ahs_drop k ok];have s2:=Same.new (o:=.lst (pint (ahs (tot (loE k es)+tot (miE k es)) (hiE k es)))) n2;have g2:upd H6 p2 (.lst (pint (ahs (tot (loE k es)+tot (miE k es)) (hiE k es)))) p2=some (.lst (pint (ahs (tot (loE k es)+tot (miE k es)) (hiE k es)))):=Zac;generalize upd H6 p2 (.lst (pint (ahs (tot (loE k es)+tot (miE k es)) (hiE k es))))=H7 at s2 g2 ⊢;have lh:(hiE k es).length≤es.length:=List.length_filter_le _ _;refine ⟨⟨_,SqL.of g2⟩,compL (fun _=>true) (fAdd ((ps.length:Int)-(tot (miE k es):Nat))) (SqL.of g2) (by rw [Zal,ZbB];omega) (fun x H R hx s h=>?_) (fun x H R hx _ s h=>?_) (fun b1 n3=>?_)⟩
   · walk_at "vc"
     exact h
   · obtain ⟨z,hz,rfl⟩:=Zcl hx
     walk_at "vc";exact h
   rw [List.filter_eq_self.mpr (fun _ _=>rfl),Zj4];have s3:=Same.new (o:=.lst ((ahs (tot (loE k es)+tot (miE k es)) (hiE k es)).map fun (x:Nat)=>V.int ((x:Int)+((ps.length:Int)-(tot (miE k es):Nat))))) n3;have g3:upd H7 b1 (.lst ((ahs (tot (loE k es)+tot (miE k es)) (hiE k es)).map fun (x:Nat)=>V.int ((x:Int)+((ps.length:Int)-(tot (miE k es):Nat))))) b1=some (.lst (pint (ahs (tot (loE k es)+ps.length) (hiE k es)))):=by have e:=congrArg (List.map V.int) (ZfH ((ps.length:Int)-(tot (miE k es):Nat)) (tot (loE k es)+tot (miE k es)) (tot (loE k es)+ps.length) (hiE k es) (by omega));rw [List.map_map,List.map_map] at e;rw [Zac];exact congrArg (fun z=>some (HO.lst z)) e
   generalize upd H7 b1 (.lst ((ahs (tot (loE k es)+tot (miE k es)) (hiE k es)).map fun (x:Nat)=>V.int ((x:Int)+((ps.length:Int)-(tot (miE k es):Nat)))))=H8 at s3 g3 ⊢;have g1:=s3 _ _ (s2 _ _ g1);refine ⟨b1,rfl,_,g1,_,g3,?_,fun p4 n4=>?_⟩
   · have:(if ps=[] then [] else [V.int (tot (loE k es):Nat)]).length≤1:=by split<;>simp
     rw [List.length_append,List.length_take,Zal,Zal,ZbB,ZbB];exact Nat.le_of_lt (small1000 (by omega))
   have el:(pint (ahs 0 es)).take (loE k es).length++(if ps=[] then [] else [V.int (tot (loE k es):Nat)])++pint (ahs (tot (loE k es)+ps.length) (hiE k es))=pint (ahs 0 (keepE k ps a es)):=by
     rw [ahs_take k ok,ahs_keep];unfold pint;rw [List.map_append,List.map_append];by_cases e:ps=[]
     · rw [if_pos e,if_pos e];rfl
     · rw [if_neg e,if_neg e];rfl
   rw [el];have S:=s1.trans (s2.trans s3);have S4:=S.trans (Same.new (o:=.lst (pint (ahs 0 (keepE k ps a es)))) n4);refine ⟨_,_,_,S4 _ _ h51,cd.c,cd.n_aheads,by show 4<1000;decide,((nb5.tb.nx S4).nb (m:=m)).put (S4 _ _ h51) trivial,p4,Zac,?_⟩;have pm:p4≠m:=fun z=>by rw [z,S _ _ h51] at n4;cases n4
   refine Zaq ?_ (nl _);rw [Zag pm,Zac]
 rintro σ H6 ⟨rfl,nb6,ah6,h61,h62⟩;have h64:=nb6.same _ _ srm h54;have h63:=nb6.same _ _ kdm h52;refine ⟨fun σ H2=>σ=[some (.ref m),some (.int k),some v,some (.int (loE k es).length),some (.int (((loE k es).length+(miE k es).length:Nat):Int)),some (.int (tot (loE k es):Nat)),some (.int ((ps.length:Int)-(tot (miE k es):Nat))),some (.int (if ps=[] then 0 else 1))]∧Nb ts m H6 H2 ∧
   ∃ sr',H2 m=some (.ins CM dx2 [("keyed",.ref kd5),("aheads",.ref ah6),("stretches",.ref sr'),("held",.int (tot es:Nat))])∧noT H2 sr'=some (.lst ((keepE k ps a es).map fun e=>V.ref e.loc)),?_,?_⟩
 · refine Zi1 cd.c cd.n_stretches h61 rfl (Zah h64).1 (by rw [List.length_map];omega) (by show 4<1000;decide) rfl fun p H' sm np hp=>⟨rfl,((nb6.tb.nx sm).nb (m:=m)).put (sm _ _ h61) trivial,p,Zac,?_⟩
   have:p≠m:=fun z=>by rw [z,h61] at np;cases np
   refine Zaq ?_ (nl _);rw [Zag this,hp,ln]
 rintro σ H7 ⟨rfl,nb7,sr7,h71,h72⟩;have ahm6:ah6≠m:=fun z=>by have:=(Zah h62).1;rw [z,h61] at this;cases this
 have h73:=nb7.same _ _ kdm h63;have h74:=nb7.same _ _ ahm6 h62;walk_at "vc";refine ⟨_,_,_,h71,cd.c,cd.n_held,_,rfl,_,rfl,_,_,_,h71,cd.c,cd.n_held,by show 4<1000;decide,?_⟩;have nbA:Nb ts m Hc H7:=(nb5.trans nb6).trans nb7;have sr7m:sr7≠m:=fun z=>by have:=(Zah h72).1;rw [z,h71] at this;cases this
 refine q _ ((nx.nb.trans nbA).put h71 trivial) ⟨⟨dx2,kd5,ah6,sr7,Zaq ?_ (ni _ _ _),Zaq ?_ (nl _),Zaq ?_ (nl _),Zaq ?_ (nl _)⟩,fun e he=>?_⟩
 · rw [Zac]
   have:((tot es:Nat):Int)+((ps.length:Int)-(tot (miE k es):Nat))=(tot (keepE k ps a es):Nat):=by rw [tot_keep];have:=tot_mi k ok;omega
   rw [this];rfl
 · rw [Zag kdm];exact (Zah h73).1
 · rw [Zag ahm6];exact (Zah h74).1
 · rw [Zag sr7m];exact (Zah h72).1
 · have fr:=(nbA.put (o':=.ins CM dx2 (putF (Str.ofString "held") (V.int (((tot es:Nat):Int)+((ps.length:Int)-(tot (miE k es):Nat)))) [("keyed",.ref kd5),("aheads",.ref ah6),("stretches",.ref sr7),("held",.int (tot es:Nat))])) h71 trivial).same
   rcases Zcv he with ⟨z,_⟩ | ⟨z,rfl⟩
   · exact (hm.st e z).nb h1 ⟨_,_,_,_,_,_,rfl⟩ fr
   · exact (hv.2 z).2.nb h1 ⟨_,_,_,_,_,_,rfl⟩ fr
end
theorem Zf4 {es:List Ent}{k:Nat}(z:miE k es=[]):stV k es=.non∧plcE k es=[]:=by unfold stV plcE;rw [z];exact ⟨rfl,rfl⟩
theorem Zel {es:List Ent}{k:Nat}{e:Ent}(z:miE k es=[e]):stV k es=.ref e.loc∧plcE k es=e.ps:=by unfold stV plcE;rw [z];exact ⟨rfl,rfl⟩
theorem mem_gAdd {ps:List Nat}{p y:Nat}(hl:∀ q∈ps,q<256)(hp:p<256):y∈gAdd ps p↔y∈ps∨y=p:=by
 unfold gAdd gJoin;rw [List.mem_filter,List.mem_range];simp only [Bool.or_eq_true,decide_eq_true_eq,List.mem_singleton];constructor
 · exact fun h=>h.2
 · intro h
   refine ⟨?_,h⟩;rcases h with h | h
   · exact hl y h
   · omega
def spInitM (c:Kd→Addr)(CM:Addr)(ts:Tabs):Sp:=fun vs H Q _=>∃ x dx:Addr,vs=[.ref x]∧H x=some (.ins CM dx [])∧Tbs ts H∧∀ H',Nb ts x H H'→MkAt c CM (noT H') x []→Q .non H'
section
variable {P:Program}{w:World}{K:PySem.W.Frag}{mg:Str→Option Value}{base:Heap}{c:Kd→Addr}{CM:Addr}{ts:Tabs}
theorem ok_initM (cd:CD_Marks K mg CM):MakeAt P w K mg base "Marks" CM ["self"] 1 (spInitM c CM ts):=by
 refine MakeAt.of cd.at_ cd.init Zdj (fun vs H Q E h=>?_) (fun f cdv A outer s H vs Q E hr h=>?_)
 · obtain ⟨x,dx,rfl,_⟩:=h
   rfl
 obtain ⟨x,dx,rfl,hx,ht,q⟩:=h;refine ⟨_,(Zaj (Zbk K (pv 0) (Za1 Zab))
     (Zaj (Zbk K (pv 0) (Za1 Zab))
     (Zaj (Zbk K (pv 0) (Za1 Zab))
     (Zae (Zbk K (pv 0) Zaf))))),?_⟩
 walk_at "vc";refine ⟨Nat.zero_le _,fun p1 n1=>?_⟩;have s1:Same H (upd H p1 (.lst [])):=Same.new n1;have g1:upd H p1 (.lst []) p1=some (.lst []):=Zac;generalize upd H p1 (.lst [])=H1 at s1 g1 ⊢;have hx:=s1 _ _ hx;have px1:p1≠x:=fun z=>by rw [z,hx] at g1;cases g1
 refine ⟨_,_,_,hx,cd.c,cd.n_keyed,by show 0<1000;decide,Nat.zero_le _,?_⟩;have b1:Nb ts x H (upd H1 x (.ins CM dx [("keyed",.ref p1)])):=((ht.nx s1).nb).put hx trivial;rw [show putF (Str.ofString "keyed") (V.ref p1) []=[(Str.ofString "keyed",V.ref p1)] from rfl];have hx:upd H1 x (.ins CM dx [("keyed",.ref p1)]) x=some (.ins CM dx [("keyed",.ref p1)]):=Zac;have g1:upd H1 x (.ins CM dx [("keyed",.ref p1)]) p1=some (.lst []):=by rw [Zag px1];exact g1
 intro p2 n2;generalize upd H1 x (.ins CM dx [("keyed",.ref p1)])=H2 at b1 hx g1 n2 ⊢;have s2:Same H2 (upd H2 p2 (.lst [])):=Same.new n2;have g2:upd H2 p2 (.lst []) p2=some (.lst []):=Zac;generalize upd H2 p2 (.lst [])=H3 at s2 g2 ⊢;have hx:=s2 _ _ hx;have g1:=s2 _ _ g1;have px2:p2≠x:=fun z=>by rw [z,hx] at g2;cases g2
 refine ⟨_,_,_,hx,cd.c,cd.n_aheads,by show 1<1000;decide,Nat.zero_le _,?_⟩;have b2:Nb ts x H (upd H3 x (.ins CM dx [("keyed",.ref p1),("aheads",.ref p2)])):=(b1.trans (b1.tb.nx s2).nb).put hx trivial;rw [show putF (Str.ofString "aheads") (V.ref p2) [(Str.ofString "keyed",V.ref p1)]=[(Str.ofString "keyed",V.ref p1),(Str.ofString "aheads",V.ref p2)] from rfl];have hx:upd H3 x (.ins CM dx [("keyed",.ref p1),("aheads",.ref p2)]) x=some (.ins CM dx [("keyed",.ref p1),("aheads",.ref p2)]):=Zac;have g1:upd H3 x (.ins CM dx [("keyed",.ref p1),("aheads",.ref p2)]) p1=some (.lst []):=by rw [Zag px1];exact g1
 have g2:upd H3 x (.ins CM dx [("keyed",.ref p1),("aheads",.ref p2)]) p2=some (.lst []):=by rw [Zag px2];exact g2
 intro p3 n3;generalize upd H3 x (.ins CM dx [("keyed",.ref p1),("aheads",.ref p2)])=H4 at b2 hx g1 g2 n3 ⊢;have s3:Same H4 (upd H4 p3 (.lst [])):=Same.new n3;have g3:upd H4 p3 (.lst []) p3=some (.lst []):=Zac;generalize upd H4 p3 (.lst [])=H5 at s3 g3 ⊢;have hx:=s3 _ _ hx;have g1:=s3 _ _ g1;have g2:=s3 _ _ g2;have px3:p3≠x:=fun z=>by rw [z,hx] at g3;cases g3
 refine ⟨_,_,_,hx,cd.c,cd.n_stretches,by show 2<1000;decide,_,_,_,Zac,cd.c,cd.n_held,by show 3<1000;decide,?_⟩;have b3:=(b2.trans (b2.tb.nx s3).nb).put (o':=.ins CM dx [("keyed",.ref p1),("aheads",.ref p2),("stretches",.ref p3)]) hx trivial;refine q _ (b3.put Zac trivial) ⟨⟨dx,p1,p2,p3,Zaq Zac (ni _ _ _),Zaq ?_ (nl _),Zaq ?_ (nl _),Zaq ?_ (nl _)⟩,fun e he=>nomatch he⟩
 · rw [Zag px1,Zag px1];exact g1
 · rw [Zag px2,Zag px2];exact g2
 · rw [Zag px3,Zag px3];exact g3
end
section
variable {P:Program}{w:World}{K:PySem.W.Frag}{mg:Str→Option Value}{base:Heap}{c:Kd→Addr}{CM:Addr}{ts:Tabs}
theorem ZeY:EsOk []:=⟨trivial,(fun _ h=>nomatch h),(fun _ h=>nomatch h),(fun _ h=>nomatch h),(fun _ h=>nomatch h)⟩
theorem mkM {H:Hp}{R:Addr→Hp→Prop}{E:XK}(ht:Tbs ts H)(q:∀ x H',Nx ts H H'→noT H x=none→MkAt c CM (noT H') x []→R x H'):∀ x dx,H x=none→H dx=none→dx≠x→spInitM c CM ts [.ref x] (upd (upd H dx (.own x)) x (.ins CM dx [])) (fun v H'=>v=.non∧R x H') E:=by intro x dx nx ndx dne;have m2:Same H (upd (upd H dx (.own x)) x (.ins CM dx [])):=(Same.new ndx).put nx;exact ⟨x,dx,rfl,Zac,ht.same m2,fun H' nb hm=>⟨rfl,q x H' (((ht.nx m2).nb.trans nb).of_new (Zb2 nx)) (Zb2 nx) hm⟩⟩
end
def KPair (c:Kd→Addr)(H:Hp)(g:Nat→List Nat)(v:V)(k:Nat):Prop:=∃ (t:Addr) (u:V),v=.ref t∧H t=some (.tup [.int (k:Nat),u])∧KeptIs c H (g k) u∧Up 0 (g k)
def Gp (c:Kd→Addr)(H:Hp)(g:Nat→List Nat):List V→List Nat→Prop:=Paired (KPair c H g)
theorem Gp.same {c:Kd→Addr}{H H':Hp}{g:Nat→List Nat}{us:List V}{ks:List Nat}(h:Gp c H g us ks)(s:Same H H'):Gp c H' g us ks:=Paired.mapP h fun _ _ ⟨t,u,e,h1,h2,h3⟩=>⟨t,u,e,s _ _ h1,h2.same s,h3⟩
theorem Gp.noT {c:Kd→Addr}{H:Hp}{g:Nat→List Nat}{us:List V}{ks:List Nat}(h:Gp c H g us ks):Gp c (noT H) g us ks:=Paired.mapP h fun _ _ ⟨t,u,e,h1,h2,h3⟩=>⟨t,u,e,Zaq h1 (nt _),h2.noT,h3⟩
theorem Gp.get {c:Kd→Addr}{H:Hp}{g:Nat→List Nat}{us:List V}{ks:List Nat}(h:Gp c H g us ks){i:Nat}{v:V}(hi:us[i]?=some v):∃ k,ks[i]?=some k∧KPair c H g v k:=by
 induction h generalizing i with
 | nil=>cases hi
 | cons r q ih =>
   cases i with
   | zero=>cases (show _=v from Option.some.inj hi);exact ⟨_,rfl,r⟩
   | succ i=>exact ih hi
def spGath (c:Kd→Addr)(CM:Addr)(ts:Tabs):Sp:=fun vs H Q _=>∃ (l:Addr) (us:List V) (ks:List Nat) (g:Nat→List Nat),vs=[.ref l]∧noT H l=some (.lst us)∧Gp c (noT H) g us ks∧ks.Nodup∧(∀ k∈ks,k<256∧Up 0 (g k)∧∀ p∈g k,p<256)∧us.length≤1000∧Tbs ts H ∧
 ∀ m H' es,Nx ts H H'→noT H m=none→MkAt c CM (noT H') m es→EsOk es→(∀ k,plcE k es=if k∈ks then g k else [])→Q (.ref m) H'
structure GathI (c:Kd→Addr)(CM:Addr)(ts:Tabs)(l m:Addr)(ks:List Nat)(g:Nat→List Nat)(H:Hp)(i:Nat)(σ:L2.St)(H':Hp):Prop where
 ex:∃ (es:List Ent) (v2 v3:Option V),σ=[some (.ref l),some (.ref m),v2,v3]∧MkAt c CM (noT H') m es∧EsOk es∧∀ k,plcE k es=if k∈ks.take i then g k else []
 nx:Nx ts H H'
section
variable {P:Program}{w:World}{K:PySem.W.Frag}{mg:Str→Option Value}{base:Heap}{c:Kd→Addr}{CM:Addr}{ts:Tabs}
theorem ZhC (h_Marks:MakeAt P w K mg base "Marks" CM ["self"] 1 (spInitM c CM ts)) (h_keep:MethAt P w K mg base CM "keep" ["self","key","stretch"] 6 (spKeep c CM ts)) (d:DefAt K mg "gathered" ZcV ["pairs"]):FnAt P w K mg base "gathered" ["pairs"] 7 (spGath c CM ts):=by
 refine FnAt.of d sc_gathered (fun vs H Q E h=>?_) (fun f cdv A outer s H vs Q E hr h=>?_)
 · obtain ⟨l,us,ks,g,rfl,_⟩:=h
   rfl
 obtain ⟨l,us,ks,g,rfl,hl,hg,nd,hk,ll,ht,q⟩:=h;refine ⟨_,(Zaj (Zao (i:=1) sc_gathered.nd rfl (by walk_at "l") (Zj2 h_Marks (hr.mono (by decide)) rfl))
     (Zaj (ZcS PassesOwn.never rfl (ZaG K (pv 0)) (Zee K rfl (ZaR (Zas (i:=2) sc_gathered.nd rfl (by walk_at "l")) (ZaR (Zas (i:=3) sc_gathered.nd rfl (by walk_at "l")) Zdd))) (Zae (ZaK (Zat op_notN (pv 3) Zc5 (nomark _)) (Zae (Zdf (ZaP (P:=P) (w:=w) (K:=K) (mg:=mg) (base:=base) 6 (hr.mono (by decide)) (pv 1) (Zaa (pv 2) (Zaa (pv 3) Zab))))) Zay)))
     (Zae (Zam (pv 1))))),?_⟩
 walk_at "vc";refine mkM ht fun m H1 nx1 nm hm1=>?_
 have hl1:=nx1.at hl;have hg1:=hg.same nx1.same;refine ⟨⟨_,SqL.of (Zah hl1).1⟩,loopL (xs:=us) (GathI c CM ts l m ks g H) ⟨⟨[],_,_,rfl,hm1,ZeY,fun k=>rfl⟩,nx1⟩ ?_ ?_ ?_⟩
 · rintro i σ H2 hi ⟨_,nx⟩
   exact SqL.of (Zah (nx.at hl)).1
 · rintro i x σ H2 hi ⟨⟨es,v2,v3,rfl,hm2,ok,pl⟩,nx⟩
   obtain ⟨k,hki,t,u,rfl,h1,h2,_⟩:=(hg.same nx.same).get hi;obtain ⟨k0,up,lt⟩:=hk k (List.mem_of_getElem? hki);have tk:ks.take (i+1)=ks.take i++[k]:=by rw [List.take_succ,hki];rfl
   have nk:k∉ks.take i:=fun z=>by
     have nd2:=(List.take_append_drop i ks) ▸ nd;have dr:k∈ks.drop i:=List.mem_of_getElem? (i:=0) (by rw [List.getElem?_drop,Nat.add_zero];exact hki);exact (List.nodup_append.mp nd2).2.2 k z k dr rfl
   walk_at "vc";refine ⟨_,SqT.of (Zah h1).1,rfl,_,_,rfl,_,_,rfl,rfl,?_⟩;have inT:∀ j,j∈ks.take (i+1)↔j∈ks.take i∨j=k:=fun j=>by rw [tk,List.mem_append,List.mem_singleton]
   by_cases e0:g k=[]
   · rw [if_pos (h2.1 e0)]
     refine ⟨⟨es,_,_,rfl,hm2,ok,fun j=>?_⟩,nx⟩;rw [pl j];by_cases c1:j∈ks.take i
     · rw [if_pos c1,if_pos ((inT j).mpr (.inl c1))]
     · rw [if_neg c1]
       by_cases c2:j=k
       · rw [if_pos ((inT j).mpr (.inr c2)),c2,e0]
       · rw [if_neg (fun z=>((inT j).mp z).elim c1 c2)]
   · obtain ⟨a,rfl,st⟩:=h2.2 e0
     rw [if_neg (by intro z;cases z)];obtain ⟨dx,fs,ho,nf⟩:=hm2.obj;obtain ⟨o,hmo,f4⟩:=hm2.four;refine ⟨_,_,_,(Zah ho).1,nf.2.2.2.2.1,_,_,h_keep,m,k,es,g k,_,a,rfl,hm2,ok,⟨fun z=>absurd z e0,fun _=>⟨rfl,st⟩⟩,up,lt,nx.tb,fun H3 nb hm3=>⟨⟨_,_,_,rfl,hm3,ok.keep k0 up lt,fun j=>?_⟩,?_⟩⟩
     · rw [plc_keep,pl j]
       by_cases c2:j=k
       · rw [if_pos c2,if_pos ((inT j).mpr (.inr c2)),c2]
       · rw [if_neg c2]
         by_cases c1:j∈ks.take i
         · rw [if_pos c1,if_pos ((inT j).mpr (.inl c1))]
         · rw [if_neg c1,if_neg (fun z=>((inT j).mp z).elim c1 c2)]
     · exact (nx.nb.trans nb).of_new nm
 · rintro σ H2 ⟨⟨es,v2,v3,rfl,hm2,ok,pl⟩,nx⟩
   walk_at "vc";have ek:us.length=ks.length:=Paired.length hg;rw [List.take_of_length_le (by omega)] at pl;exact q m H2 es nx nm hm2 ok pl
structure DW (kvs:List (Key × V))(ks:List Nat)(g:Nat→List Nat):Prop where
 keys:kvs.map (·.1)=ks.map fun (k:Nat)=>Sum.inl (k:Int)
 nd:ks.Nodup
 ok:∀ k∈ks,k<256∧Up 0 (g k)∧∀ p∈g k,p<256
 val:∀ k∈ks,valV kvs (Sum.inl (k:Int))=some (.int (wd (g k):Nat))
def spOfWords (c:Kd→Addr)(CM:Addr)(ts:Tabs):Sp:=fun vs H Q _=>∃ (d:Addr) (kvs:List (Key × V)) (ks:List Nat) (g:Nat→List Nat),vs=[.ref d]∧noT H d=some (.dK kvs)∧DW kvs ks g∧ks.length≤256∧Tbs ts H ∧
 ∀ m H' es,Nx ts H H'→noT H m=none→MkAt c CM (noT H') m es→EsOk es→(∀ k,plcE k es=if k∈ks then g k else [])→Q (.ref m) H'
structure OfI (c:Kd→Addr)(zs:List Nat)(g:Nat→List Nat)(H1:Hp)(D:Addr)(i:Nat)(ys:List V)(H2:Hp):Prop where
 le:i≤zs.length
 len:ys.length=i
 same:Same H1 H2
 hD:H2 D=some (.lst ys)
 gp:Gp c H2 g ys (zs.take i)
theorem Zjw {ps:List Nat}(u:Up 0 ps)(h:ps≠[]):runsOf ps≠[]:=fun e=>h (by rw [← (runs_ok u).1,e];rfl)
theorem StAt.away {c:Kd→Addr} {k:Kd} {H:Hp} {x D:Addr} {ps:List Nat} {ys:List V} {o:HO} (h:StAt c k H x ps) (u:Up 0 ps) (ne:ps≠[]) (hD:H D=some (.lst ys)) (al:∀ y∈ys,∃ (t:Addr) (i:Int) (v:V),y=.ref t∧H t=some (.tup [.int i,v])∧∀ z,v≠.int z):StAt c k (upd H D o) x ps:=by
 cases k with
 | l =>
   obtain ⟨dx,l,e,h⟩:=h;refine ⟨dx,l,?_,?_⟩
   · rw [Zag (fun z=>by rw [z,hD] at e;cases e)];exact e
   · rw [Zag (fun z=>?_)];exact h
     rw [z,hD] at h;cases ps with
     | nil=>exact ne rfl
     | cons p r =>
       have:ys=pint (p::r):=by cases h;rfl
       obtain ⟨t,i,v,e1,_⟩:=al (.int (p:Nat)) (by rw [this];exact .head _);cases e1
 | b =>
   obtain ⟨dx,e⟩:=h;refine ⟨dx,?_⟩;rw [Zag (fun z=>by rw [z,hD] at e;cases e)];exact e
 | r =>
   obtain ⟨dx,l,e,us,h,t⟩:=h;refine ⟨dx,l,?_,us,?_,Paired.mapP t fun _ _ ⟨t,e,ht⟩=>⟨t,e,?_⟩⟩
   · rw [Zag (fun z=>by rw [z,hD] at e;cases e)];exact e
   · rw [Zag (fun z=>?_)];exact h
     rw [z,hD] at h;have eu:ys=us:=by cases h;rfl
     have nr:=Zjw u ne;generalize runsOf ps=rs at t nr;cases t with
     | nil=>exact nr rfl
     | cons r q =>
       obtain ⟨t1,e1,ht1⟩:=r;obtain ⟨t2,i,v,e2,ht2,nv⟩:=al _ (by rw [eu];exact .head _);rw [e1] at e2;cases e2;rw [ht1] at ht2;cases ht2;exact nv _ rfl
   · rw [Zag (fun z=>by rw [z,hD] at ht;cases ht)];exact ht
theorem KeptIs.noInt {c:Kd→Addr}{H:Hp}{ps:List Nat}{v:V}(h:KeptIs c H ps v):∀ z,v≠.int z:=fun z e=>by
 by_cases c:ps=[]
 · rw [h.1 c] at e;cases e
 · obtain ⟨x,e2,_⟩:=h.2 c
   rw [e2] at e;cases e
theorem Gp.all {c:Kd→Addr}{H:Hp}{g:Nat→List Nat}{us:List V}{ks:List Nat}(h:Gp c H g us ks):∀ y∈us,∃ (t:Addr) (i:Int) (v:V),y=.ref t∧H t=some (.tup [.int i,v])∧∀ z,v≠.int z:=fun y hy=>by
 obtain ⟨i,hi⟩:=List.getElem?_of_mem hy;obtain ⟨k,_,t,u,e,h1,h2,_⟩:=h.get hi;exact ⟨t,k,u,e,h1,h2.noInt⟩
theorem KPair.away {c:Kd→Addr}{H:Hp}{g:Nat→List Nat}{D:Addr}{ys:List V}{v:V}{k:Nat}{o:HO}(h:KPair c H g v k)(hD:H D=some (.lst ys))(al:∀ y∈ys,∃ (t:Addr) (i:Int) (v:V),y=.ref t∧H t=some (.tup [.int i,v])∧∀ z,v≠.int z):KPair c (upd H D o) g v k:=by
 obtain ⟨t,u,e,h1,h2,h3⟩:=h;refine ⟨t,u,e,?_,⟨h2.1,fun n=>?_⟩,h3⟩
 · rw [Zag (fun z=>by rw [z,hD] at h1;cases h1)];exact h1
 · obtain ⟨x,e2,st⟩:=h2.2 n
   exact ⟨x,e2,st.away h3 n hD al⟩
theorem Gp.snoc {c:Kd→Addr}{H:Hp}{g:Nat→List Nat}:∀ {us:List V} {ks:List Nat} {v:V} {k:Nat},Gp c H g us ks→KPair c H g v k→Gp c H g (us++[v]) (ks++[k])
 | _,_,_,_,.nil,h=>.cons h .nil
 | _,_,_,_,.cons r q,h=>.cons r (Gp.snoc q h)
theorem Zhl (B:Blt mg)(h_kept:FnAt P w K mg base "kept" ["word"] 4 (spKept c))(h_gathered:FnAt P w K mg base "gathered" ["pairs"] 7 (spGath c CM ts))(d:DefAt K mg "of_words" Zc0 ["words"]):FnAt P w K mg base "of_words" ["words"] 8 (spOfWords c CM ts):=by
 refine FnAt.of d ZhE (fun vs H Q E h=>?_) (fun f cdv A outer s H vs Q E hr h=>?_)
 · obtain ⟨l,us,ks,g,rfl,_⟩:=h
   rfl
 obtain ⟨d,kvs,ks,g,rfl,hd,dw,lk,ht,q⟩:=h;refine ⟨_,(Zae (Zam (Zad h_gathered (hr.mono (by decide)) rfl (Zaa (Zbq ["key"] [0] rfl (ZaG K (ZaF Zca rfl B.sorted L2.boot_sorted (Zaa (pv 0) Zab))) (fun _ _ _ _ _=>Zas (i:=0) (by show List.Nodup (["key","words"]:List Str);decide +kernel) rfl (Or.inl rfl)) (fun _ _ _ _ _=>Zbi) (fun _ _ _ _ _=>(Zb8 (Zaa (pv 0) (Zaa (Zad h_kept (hr.mono (by decide)) rfl (Zaa (pe_dget (hu1 hr) (pv 1) (pv 0) (fun _ _=>rfl)) Zab)) Zab)))) ⟨⟨_,rfl,rfl,.inl rfl⟩,trivial⟩ ZaH) Zab)))),?_⟩;walk_at "vc";have hd:=(Zah hd).1;refine ⟨kvs,hd,ks.map fun (k:Nat)=>(k:Int),by rw [dw.keys,List.map_map];rfl,fun l ns fl pm _=>?_⟩;obtain ⟨zs,rfl,pz⟩:∃ zs:List Nat,ns=zs.map (fun (k:Nat)=>(k:Int))∧zs.Perm ks:=by
   refine ⟨ns.map Int.toNat,?_,?_⟩
   · rw [List.map_map]
     refine (List.map_id ns).symm.trans (List.map_congr_left fun y hy=>?_);obtain ⟨k,_,rfl⟩:=List.mem_map.mp (pm.mem_iff.mp hy);show (k:Int)=((k:Int).toNat:Int)
     rw [Int.toNat_natCast]
   · have:=pm.map Int.toNat
     rw [List.map_map] at this;have e:ks.map (Int.toNat ∘ fun (k:Nat)=>(k:Int))=ks:=(List.map_congr_left fun y hy=>Int.toNat_natCast y).trans (List.map_id ks);rw [e] at this;exact this
 have lz:zs.length=ks.length:=pz.length_eq;rw [← ZbW];have s1:=Same.new (o:=.lst (pint zs)) fl;have hl:upd H l (.lst (pint zs)) l=some (.lst (pint zs)):=Zac;have hd:=s1 _ _ hd;generalize upd H l (.lst (pint zs))=H1 at s1 hl hd ⊢;refine ⟨⟨_,SqL.of hl⟩,compG (n:=zs.length) (OfI c zs g H1) (fun D nD=>⟨Nat.zero_le _,rfl,Same.new nD,Zac,.nil⟩) (fun D i ys H h=>h.le) ?_ ?_ ?_ ?_⟩
 · rintro D ys H3 nD ⟨_,_,sm,_,_⟩
   exact ⟨_,SqL.of (sm _ _ hl),by rw [Zal];exact Nat.le_refl _⟩
 · rintro D i ys H3 nD hi ⟨_,_,sm,_,_⟩
   exact ⟨_,_,SqL.of (sm _ _ hl),List.getElem?_eq_getElem (by rw [Zal];exact hi)⟩
 · rintro D i ys H3 x H4 nD hi ⟨le,len,sm,hD,gp⟩ ⟨rfl,yy⟩
   obtain ⟨p,hp,rfl⟩:=ZbD (yy _ (SqL.of (sm _ _ hl)));have pk:p∈ks:=pz.mem_iff.mp (List.mem_of_getElem? hp);obtain ⟨p0,up,lt⟩:=dw.ok p pk;walk_at "vc";have dg:=DGet.k (k:=Sum.inl (p:Int)) (sm _ _ hd);rw [dw.val p pk] at dg;refine ⟨_,dg,g p,rfl,up,lt,fun u H5 s5 kp=>⟨by decide,fun t ft=>?_⟩⟩;have s6:=Same.new (o:=.tup [V.int (p:Nat),u]) ft;have g6:upd H5 t (.tup [V.int (p:Nat),u]) t=some (.tup [V.int (p:Nat),u]):=Zac;have kp:=kp.same s6;generalize upd H5 t (.tup [V.int (p:Nat),u])=H6 at s6 g6 kp ⊢;have S:=s5.trans s6;have hD:=S _ _ hD;have gp:=gp.same S;have al:=gp.all;have tk:zs.take (i+1)=zs.take i++[p]:=by rw [List.take_succ,hp];rfl
   refine compYes (by omega) hi (by omega) hD ⟨hi,by rw [List.length_append,len];rfl,(sm.trans S).put nD,Zac,?_⟩;rw [tk];exact Gp.snoc (Paired.mapP gp fun _ _ h=>KPair.away h hD al) (KPair.away ⟨t,u,rfl,g6,kp,up⟩ hD al)
 · rintro D ys H3 nD ⟨le,len,sm,hD,gp⟩
   rw [List.take_of_length_le (Nat.le_refl _)] at gp;have nx:=ht.nx (s1.trans sm);refine ⟨D,ys,zs,g,rfl,Zaq hD (nl _),gp.noT,pz.nodup_iff.mpr dw.nd,fun k hk=>dw.ok k (pz.mem_iff.mp hk),by omega,nx.tb,fun m H' es nx2 nm hm ok pl=>q m H' es (nx.trans nx2) (nx.free nm) hm ok fun k=>?_⟩;rw [pl k];by_cases z:k∈ks
   · rw [if_pos z,if_pos (pz.mem_iff.mpr z)]
   · rw [if_neg z,if_neg (fun y=>z (pz.mem_iff.mp y))]
theorem Zkg (kvs:List (Key × V))(k:Key)(v:V):(putK kvs k v).map (·.1)=if (valV kvs k).isSome=true then kvs.map (·.1) else kvs.map (·.1)++[k]:=by
 unfold putK;rw [ZbG];split
 · rw [List.map_map]
   refine List.map_congr_left fun kv _=>?_
   show (if kv.1=k then (kv.1,v) else kv).1=kv.1;split<;>rfl
 · rw [List.map_append]
   rfl
def spMarksOf (c:Kd→Addr)(CM:Addr)(ts:Tabs):Sp:=fun vs H Q _=>∃ (l:Addr) (ns:List Nat),vs=[.ref l]∧noT H l=some (.lst (pint ns))∧(∀ n∈ns,n≤65535)∧ns.length≤1000∧Tbs ts H ∧
 ∀ m H' es,Nx ts H H'→noT H m=none→MkAt c CM (noT H') m es→EsOk es→(∀ x,x∈flat es↔x∈ns)→Q (.ref m) H'
structure MoI (l:Addr)(ns:List Nat)(H:Hp)(i:Nat)(σ:L2.St)(H':Hp):Prop where
 ex:∃ (d:Addr) (kvs:List (Key × V)) (ks:List Nat) (g:Nat→List Nat) (v2:Option V),σ=[some (.ref l),some (.ref d),v2]∧H d=none∧H' d=some (.dK kvs)∧DW kvs ks g∧(∀ k,k∉ks→g k=[]∧valV kvs (Sum.inl (k:Int))=none)∧∀ x,x%256∈g (x/256)↔x∈ns.take i
 same:Same H H'
theorem Zfj {ks:List Nat}(nd:ks.Nodup)(h:∀ k∈ks,k<256):ks.length≤256:=by
 have:=nd.length_le_of_subset (l₂:=List.range 256) fun k hk=>List.mem_range.mpr (h k hk)
 rw [List.length_range] at this;exact this
theorem DW.put {kvs:List (Key × V)}{ks:List Nat}{g:Nat→List Nat}{n:Nat}(dw:DW kvs ks g)(no:∀ k,k∉ks→g k=[]∧valV kvs (Sum.inl (k:Int))=none)(hn:n≤65535) :
   let g':Nat→List Nat:=fun k=>if k=n/256 then gAdd (g (n/256)) (n%256) else g k
   let ks':List Nat:=if n/256∈ks then ks else ks++[n/256]
   let kvs':=putK kvs (Sum.inl ((n/256:Nat):Int)) (.int (wd (gAdd (g (n/256)) (n%256)):Nat))
   DW kvs' ks' g'∧(∀ k,k∉ks'→g' k=[]∧valV kvs' (Sum.inl (k:Int))=none):=by
 intro g' ks' kvs';have iff_ks:∀ k,k∈ks'↔k∈ks∨k=n/256:=fun k=>by
   show k∈(if n/256∈ks then ks else ks++[n/256])↔_;split
   · rename_i h
     exact ⟨.inl,fun z=>z.elim id fun z=>by rw [z];exact h⟩
   · rw [List.mem_append,List.mem_singleton]
 have vals:∀ k:Nat,valV kvs' (Sum.inl (k:Int))=if k=n/256 then some (.int (wd (gAdd (g (n/256)) (n%256)):Nat)) else valV kvs (Sum.inl (k:Int)):=fun k=>by
   show valV (putK kvs (Sum.inl ((n/256:Nat):Int)) _) (Sum.inl (k:Int))=_;rw [valV_put];by_cases c:k=n/256
   · rw [if_pos (by rw [c]),if_pos c]
   · rw [if_neg (by intro z;exact c (Int.ofNat.inj (Sum.inl.inj z))),if_neg c]
 have some_iff:(valV kvs (Sum.inl ((n/256:Nat):Int))).isSome=true↔n/256∈ks:=by
   by_cases c:n/256∈ks
   · rw [dw.val _ c];simp [c]
   · rw [(no _ c).2];simp [c]
 refine ⟨⟨?_,?_,fun k hk=>?_,fun k hk=>?_⟩,fun k hk=>?_⟩
 · show (putK kvs _ _).map (·.1)=_
   rw [Zkg];show _=(if n/256∈ks then ks else ks++[n/256]).map _;by_cases c:n/256∈ks
   · rw [if_pos (some_iff.mpr c),if_pos c,dw.keys]
   · rw [if_neg (fun z=>c (some_iff.mp z)),if_neg c,dw.keys,List.map_append]
     rfl
 · show (if n/256∈ks then ks else ks++[n/256]).Nodup
   split
   · exact dw.nd
   · rename_i h
     exact Zjh dw.nd h
 · have gk:g' k=if k=n/256 then gAdd (g (n/256)) (n%256) else g k:=rfl
   rw [gk];by_cases c:k=n/256
   · rw [if_pos c]
     exact ⟨by omega,Zb1 _ _,Zix (f:=fun x=>decide (x∈g (n/256))||decide (x∈[n%256]))⟩
   · rw [if_neg c]
     exact dw.ok k (((iff_ks k).mp hk).resolve_right c)
 · rw [vals]
   have gk:g' k=if k=n/256 then gAdd (g (n/256)) (n%256) else g k:=rfl
   rw [gk];by_cases c:k=n/256
   · rw [if_pos c,if_pos c]
   · rw [if_neg c,if_neg c]
     exact dw.val k (((iff_ks k).mp hk).resolve_right c)
 · have nk:k∉ks∧k≠n/256:=⟨fun z=>hk ((iff_ks k).mpr (.inl z)),fun z=>hk ((iff_ks k).mpr (.inr z))⟩
   have gk:g' k=if k=n/256 then gAdd (g (n/256)) (n%256) else g k:=rfl
   rw [gk,vals,if_neg nk.2,if_neg nk.2];exact no k nk.1
theorem ZgU (cP:∃ t,mg "PLACES"=some (.int 256 t)) (h_check_number:FnAt P w K mg base "check_number" ["thing"] 2 spChk) (h_of_words:FnAt P w K mg base "of_words" ["words"] 8 (spOfWords c CM ts)) (d:DefAt K mg "marks_of" ZcL ["numbers"]):FnAt P w K mg base "marks_of" ["numbers"] 9 (spMarksOf c CM ts):=by
 obtain ⟨tP,c_PLACES⟩:=cP;refine FnAt.of d sc_marks_of (fun vs H Q E h=>?_) (fun f cdv A outer s H vs Q E hr h=>?_)
 · obtain ⟨l,ns,rfl,_⟩:=h
   rfl
 obtain ⟨l,ns,rfl,hl,hn,ll,ht,q⟩:=h;refine ⟨_,(Zaj (Zao (i:=1) sc_marks_of.nd rfl (by walk_at "l") ZeB)
     (Zaj (ZcS PassesOwn.never rfl (ZaG K (pv 0)) (Zas (i:=2) sc_marks_of.nd rfl (by walk_at "l")) (Zaj (Zdf (Zad h_check_number (hr.mono (by decide)) rfl (Zaa (pv 2) Zab)))
     (Zae (Zea (hu1 hr) (pv 1) (Zai ZaI (pv 2) (ZaY (v:=.int 256) rfl c_PLACES ⟨_,rfl⟩)) (Zai op_or (pe_dget2 (hu1 hr) (pv 1) (Zai ZaI (pv 2) (ZaY (v:=.int 256) rfl c_PLACES ⟨_,rfl⟩)) Zaf ⟨rfl,rfl,rfl,rfl⟩) (Zai Zdx Zaf (Zai ZaD (pv 2) (ZaY (v:=.int 256) rfl c_PLACES ⟨_,rfl⟩)))) rfl))))
     (Zae (Zam (Zad h_of_words (hr.mono (by decide)) rfl (Zaa (pv 1) Zab)))))),?_⟩
 walk_at "vc";have hl:=(Zah hl).1;intro d nd;have sd:Same H (upd H d (.dK [])):=Same.new nd;refine ⟨⟨_,SqL.of (sd _ _ hl)⟩,loopL (xs:=pint ns) (MoI l ns H) ⟨⟨d,[],[],fun _=>[],_,rfl,nd,Zac,⟨rfl,List.nodup_nil,(fun _ h=>nomatch h),(fun _ h=>nomatch h)⟩,fun k _=>⟨rfl,rfl⟩,fun x=>⟨(fun h=>nomatch h),(fun h=>nomatch h)⟩⟩,sd⟩ ?_ ?_ ?_⟩
 · rintro i σ H2 hi ⟨_,sm⟩
   exact SqL.of (sm _ _ hl)
 · rintro i x σ H2 hi ⟨⟨d,kvs,ks,g,v2,rfl,nd,hd,dw,no,me⟩,sm⟩
   obtain ⟨n,hni,rfl⟩:=ZbD hi;have n0:=hn n (List.mem_of_getElem? hni);have tk:ns.take (i+1)=ns.take i++[n]:=by rw [List.take_succ,hni];rfl
   have e1:(n:Int)/256=((n/256:Nat):Int):=by omega
   have e2:(n:Int)%256=((n%256:Nat):Int):=by omega
   walk_at "vc";rw [e1,e2];have dg:=DGet.k (k:=Sum.inl ((n/256:Nat):Int)) hd;have p0:n%256<256:=Nat.mod_lt _ (by decide);have gk:Up 0 (g (n/256))∧(∀ p∈g (n/256),p<256)∧(valV kvs (Sum.inl ((n/256:Nat):Int))).getD (V.int 0)=.int (wd (g (n/256)):Nat):=by
     by_cases z:n/256∈ks
     · rw [dw.val _ z]
       exact ⟨(dw.ok _ z).2.1,(dw.ok _ z).2.2,rfl⟩
     · rw [(no _ z).2,(no _ z).1]
       exact ⟨trivial,(fun _ h=>nomatch h),rfl⟩
   obtain ⟨dw2,no2⟩:=dw.put no n0;refine ⟨n,rfl,n0,.inl ⟨kvs,.inl hd⟩,_,dg,⟨by omega,by omega,by decide⟩,_,gk.2.2,_,DPut.k (k:=Sum.inl ((n/256:Nat):Int)) hd ?_,⟨d,_,_,_,_,rfl,nd,?_,dw2,no2,fun x=>?_⟩,sm.put nd⟩
   · have:=Zfj dw.nd fun k hk=>(dw.ok k hk).1
     have l2:=congrArg List.length dw.keys;rw [List.length_map,List.length_map] at l2;exact small1000 (by omega)
   · rw [Zac,shl_one,or_wdI gk.1 (up_one _) gk.2.1 (lt_one p0)]
     rfl
   · rw [tk,List.mem_append,List.mem_singleton,← me]
     show x%256∈(if x/256=n/256 then gAdd (g (n/256)) (n%256) else g (x/256))↔_;by_cases c:x/256=n/256
     · rw [if_pos c,mem_gAdd gk.2.1 p0,c]
       constructor
       · rintro (z | z)
         · exact .inl z
         · exact .inr (by omega)
       · rintro (z | z)
         · exact .inl z
         · exact .inr (by omega)
     · rw [if_neg c]
       constructor
       · exact .inl
       · rintro (z | z)
         · exact z
         · exact absurd (by rw [z]) c
 · rintro σ H2 ⟨⟨d,kvs,ks,g,v2,rfl,nd,hd,dw,no,me⟩,sm⟩
   walk_at "vc";rw [Zal,List.take_of_length_le (Nat.le_refl _)] at me;have nx:=ht.nx sm;refine ⟨d,kvs,ks,g,rfl,Zaq hd (L2.nd _),dw,Zfj dw.nd fun k hk=>(dw.ok k hk).1,nx.tb,fun m H' es nx2 nm hm ok pl=>q m H' es (nx.trans nx2) (nx.free nm) hm ok fun x=>?_⟩;rw [ZbV ok,pl,← me];by_cases z:x/256∈ks
   · rw [if_pos z]
   · rw [if_neg z,(no _ z).1]
end
def bodyD:Kd→List Nat→PyData
 | .l,ps=>.list ((ps.map fun (p:Nat)=>(p:Int)).map PyData.int)
 | .b,ps=>.int ((wd ps:Nat):Int)
 | .r,ps=>.list ((runsOf ps).map pairD)
def toldD (k:Kd)(ps:List Nat):PyData:=.tuple [.str (kS k),bodyD k ps]
theorem rd_body {K:PySem.W.Frag}{H:Hp}{k:Kd}{ps:List Nat}{v:V}(h:BodyIs H k ps v):RdD K H v (bodyD k ps):=by
 cases k with
 | l =>
   obtain ⟨l,rfl,hl⟩:=h;rw [ZdI] at hl;exact .lst (SqL.of hl) (ZbX _)
 | b=>rw [show v=_ from h];exact .int _
 | r =>
   obtain ⟨l,rfl,us,hl,ht⟩:=h;exact .lst (SqL.of hl) (Zdk ht)
theorem ZdW:∀ ns:List Int,PyData.canLayAll0 (ns.map PyData.int)=true
 | []=>rfl
 | n::r=>by
   rw [List.map_cons];simp only [PyData.canLayAll0,PyData.canLay0,ZdW r,Bool.and_self]
theorem ZeV:∀ ns:List Int,PyData.depthAll (ns.map PyData.int)≤1
 | []=>by decide
 | n::r=>by
   have:=ZeV r;rw [List.map_cons];simp only [PyData.depthAll,PyData.depth];omega
theorem lay_body (k:Kd)(ps:List Nat):PyData.canLay0 (bodyD k ps)=true∧PyData.depth (bodyD k ps)≤2:=by
 cases k with
 | l =>
   have:=ZeV (ps.map fun (p:Nat)=>(p:Int));exact ⟨by simp only [bodyD,PyData.canLay0];exact ZdW _,by simp only [bodyD,PyData.depth];omega⟩
 | b=>exact ⟨rfl,by simp only [bodyD,PyData.depth];omega⟩
 | r =>
   have:=Zcm (runsOf ps);exact ⟨by simp only [bodyD,PyData.canLay0];exact Zcg _,by simp only [bodyD,PyData.depth];omega⟩
theorem Zih (k:Kd)(ps:List Nat):SeqAt.noMix (toldD k ps) (toldD k ps)=true:=by
 cases k with
 | l =>
   have e:PySem.Spec.Shape.has (.list .int) (bodyD .l ps)=true:=list_map_has fun _=>rfl
   have h:PySem.Spec.Shape.has (.tuple [.str,.list .int]) (toldD .l ps)=true:=by show (true&&(PySem.Spec.Shape.has (.list .int) (bodyD .l ps)&&true))=true;rw [e];rfl
   exact SeqAt.noMix_of_shape (.tuple [.str,.list .int]) rfl _ _ h h
 | b=>exact SeqAt.noMix_of_shape (.tuple [.str,.int]) rfl _ _ rfl rfl
 | r =>
   have e:PySem.Spec.Shape.has (.list (.tuple [.int,.int])) (bodyD .r ps)=true:=list_map_has fun _=>rfl
   have h:PySem.Spec.Shape.has (.tuple [.str,.list (.tuple [.int,.int])]) (toldD .r ps)=true:=by show (true&&(PySem.Spec.Shape.has (.list (.tuple [.int,.int])) (bodyD .r ps)&&true))=true;rw [e];rfl
   exact SeqAt.noMix_of_shape (.tuple [.str,.list (.tuple [.int,.int])]) rfl _ _ h h
section
variable {P:Program}{w:World}{K:PySem.W.Frag}{mg:Str→Option Value}{base:Heap}{c:Kd→Addr}{CM:Addr}{ts:Tabs}
def spKeyList (c:Kd→Addr)(CM:Addr):Sp:=fun vs H Q _=>∃ (m:Addr) (es:List Ent),vs=[.ref m]∧MkAt c CM (noT H) m es∧∀ l,H l=none→Q (.ref l) (upd H l (.lst (pint (kys es))))
def spWordAt (c:Kd→Addr)(CM:Addr)(ts:Tabs):Sp:=fun vs H Q _=>∃ (m:Addr) (k:Nat) (es:List Ent),vs=[.ref m,.int k]∧MkAt c CM (noT H) m es∧EsOk es∧Tbs ts H∧∀ H',Nx ts H H'→Q (.int (wd (plcE k es):Nat)) H'
def spManyMM (c:Kd→Addr)(CM:Addr):Sp:=fun vs H Q _=>∃ (m:Addr) (es:List Ent),vs=[.ref m]∧MkAt c CM (noT H) m es∧Q (.int (tot es:Nat)) H
def RowAt (H:Hp)(v:V)(e:Ent):Prop:=∃ (t:Addr) (b:V),v=.ref t∧H t=some (.tup [.int (e.key:Nat),.str (kS (kdOf e.ps)),b])∧BodyIs H (kdOf e.ps) e.ps b
def spToldM (c:Kd→Addr)(CM:Addr):Sp:=fun vs H Q _=>∃ (m:Addr) (es:List Ent),vs=[.ref m]∧MkAt c CM (noT H) m es∧EsOk es∧∀ l us H',Same H H'→H' l=some (.lst us)→Paired (RowAt H') us es→Q (.ref l) H'
theorem ZgL (B:Blt mg)(cd:CD_Marks K mg CM):MethAt P w K mg base CM "key_list" ["self"] 1 (spKeyList c CM):=by
 refine MethAt.of cd.c cd.m_key_list Zds (fun vs H Q E h=>?_) (fun f cdv A outer s H vs Q E hr h=>?_)
 · obtain ⟨m,es,rfl,_⟩:=h
   rfl
 obtain ⟨m,es,rfl,hm,q⟩:=h;obtain ⟨dx,kd,ah,sr,h1,h2,_⟩:=hm.ex;refine ⟨_,(Zae (Zam (Za8 (ZaS K) rfl B.lst boot_list (Zaa (Zau K (pv 0)) Zab)))),?_⟩;walk_at "vc";exact ⟨_,_,_,(Zah h1).1,cd.c,cd.n_keyed,.ref kd,rfl,kd,rfl,_,.inl (SqL.of (Zah h2).1),q⟩
theorem Zkk (cd:CD_Marks K mg CM):MethAt P w K mg base CM "many" ["self"] 1 (spManyMM c CM):=by
 refine MethAt.of cd.c cd.m_many Ze8 (fun vs H Q E h=>?_) (fun f cdv A outer s H vs Q E hr h=>?_)
 · obtain ⟨m,es,rfl,_⟩:=h
   rfl
 obtain ⟨m,es,rfl,hm,q⟩:=h;obtain ⟨dx,kd,ah,sr,h1,_⟩:=hm.ex;refine ⟨_,(Zae (Zam (Zau K (pv 0)))),?_⟩;walk_at "vc";exact ⟨_,_,_,(Zah h1).1,cd.c,cd.n_held,_,rfl,q⟩
theorem Zic (h_stretch_at:MethAt P w K mg base CM "stretch_at" ["self","key"] 5 (spStAt c CM ts))(hw:∀ k,MethAt P w K mg base (c k) "word" ["self"] 4 (spWordM c k))(cd:CD_Marks K mg CM):MethAt P w K mg base CM "word_at" ["self","key"] 6 (spWordAt c CM ts):=by
 refine MethAt.of cd.c cd.m_word_at sc_Marks_word_at (fun vs H Q E h=>?_) (fun f cdv A outer s H vs Q E hr h=>?_)
 · obtain ⟨m,k,es,rfl,_⟩:=h
   rfl
 obtain ⟨m,k,es,rfl,hm,ok,ht,q⟩:=h;obtain ⟨dx,fs,ho,nf⟩:=hm.obj;refine ⟨_,(Zaj (Zao (i:=2) sc_Marks_word_at.nd rfl (by walk_at "l") (ZaP (P:=P) (w:=w) (K:=K) (mg:=mg) (base:=base) 5 (hr.mono (by decide)) (pv 0) (Zaa (pv 1) Zab)))
     (Zae (Zam (ZbY (Zat Zh7 (pv 2) Zc5 (nomark _)) Zaf (ZaC (P:=P) (w:=w) (K:=K) (mg:=mg) (base:=base) 4 (hr.mono (by decide)) (pv 2)))))),?_⟩
 walk_at "vc";refine ⟨_,_,_,(Zah ho).1,nf.2.2.2.1,_,_,h_stretch_at,m,k,es,rfl,hm,ok,ht,fun H' nx=>?_⟩;have q:=q H' nx;have hm:=hm.same nx.same;rcases Zcu k ok.up with z | ⟨e,z1,z2,z3⟩
 · rw [(Zf4 z).1]
   rw [(Zf4 z).2] at q;show if V.non=V.non then _ else _
   rw [if_pos rfl];exact q
 · rw [(Zel z1).1]
   rw [(Zel z1).2] at q;have st:=(hm.st e z3).same noT_sub;obtain ⟨dx2,fs2,ho2,nf2⟩:=st.obj;show if V.ref e.loc=V.non then _ else _
   rw [if_neg (by intro y;cases y)];exact ⟨_,rfl,_,_,_,ho2,nf2.2.2.1,_,_,hw _,e.loc,e.ps,rfl,st,ok.pup e z3,ok.plt e z3,q⟩
theorem BodyIs.away {k:Kd}{H:Hp}{ps:List Nat}{v:V}{D:Addr}{o:HO}(h:BodyIs H k ps v)(n:∀ l,v=.ref l→l≠D){ys:List V}(hD:H D=some (.lst ys)):BodyIs (upd H D o) k ps v:=by
 cases k with
 | l =>
   obtain ⟨l,e,h⟩:=h;exact ⟨l,e,by rw [Zag (n l e)];exact h⟩
 | b=>exact h
 | r =>
   obtain ⟨l,e,us,h,t⟩:=h;exact ⟨l,e,us,by rw [Zag (n l e)];exact h,Paired.mapP t fun _ _ ⟨t,e,ht⟩=>⟨t,e,by rw [Zag (fun z=>by rw [z,hD] at ht;cases ht)];exact ht⟩⟩
def RowD (D:Addr)(H:Hp)(v:V)(e:Ent):Prop:=∃ (t:Addr) (b:V),v=.ref t∧H t=some (.tup [.int (e.key:Nat),.str (kS (kdOf e.ps)),b])∧BodyIs H (kdOf e.ps) e.ps b∧∀ l,b=.ref l→l≠D
theorem RowD.away {D:Addr}{H:Hp}{v:V}{e:Ent}{ys:List V}{o:HO}(h:RowD D H v e)(hD:H D=some (.lst ys)):RowD D (upd H D o) v e:=by obtain ⟨t,b,e1,h1,h2,h3⟩:=h;exact ⟨t,b,e1,by rw [Zag (fun z=>by rw [z,hD] at h1;cases h1)];exact h1,h2.away h3 hD,h3⟩
theorem RowD.same {D:Addr}{H H':Hp}{v:V}{e:Ent}(h:RowD D H v e)(s:Same H H'):RowD D H' v e:=by obtain ⟨t,b,e1,h1,h2,h3⟩:=h;exact ⟨t,b,e1,s _ _ h1,h2.same s,h3⟩
theorem Paired.snoc {α β:Type}{F:α→β→Prop}:∀ {us:List α} {es:List β} {u:α} {e:β},Paired F us es→F u e→Paired F (us++[u]) (es++[e])
 | _,_,_,_,.nil,h=>.cons h .nil
 | _,_,_,_,.cons r q,h=>.cons r (Paired.snoc q h)
structure ToI (es:List Ent)(H:Hp)(D:Addr)(i:Nat)(ys:List V)(H':Hp):Prop where
 le:i≤es.length
 len:ys.length=i
 same:Same H H'
 hD:H' D=some (.lst ys)
 rows:Paired (RowD D H') ys (es.take i)
theorem ok_toldM (B:Blt mg)(hk:∀ k,MethAt P w K mg base (c k) "kind" ["self"] 4 (spKindS k))(hb:∀ k,MethAt P w K mg base (c k) "body" ["self"] 4 (spBodyN c k))(cd:CD_Marks K mg CM):MethAt P w K mg base CM "told" ["self"] 5 (spToldM c CM):=by
 refine MethAt.of cd.c cd.m_told Zfb (fun vs H Q E h=>?_) (fun f cdv A outer s H vs Q E hr h=>?_)
 · obtain ⟨m,es,rfl,_⟩:=h
   rfl
 obtain ⟨m,es,rfl,hm,ok,q⟩:=h;obtain ⟨dx,kd,ah,sr,h1,h2,h3,h4⟩:=hm.ex;refine ⟨_,(Zae (Zam (Zbq ["key","stretch"] [] rfl (pi_zipK K rfl B.zip (Zaa (Zau K (pv 0)) (Zaa (Zau K (pv 0)) Zab))) (fun _ _ _ _ _=>Zee (n:=2) K rfl (ZaR (Zas (i:=0) (by show List.Nodup (["key","stretch"]:List Str);decide +kernel) rfl (Or.inl rfl)) (ZaR (Zas (i:=1) (by show List.Nodup (["key","stretch"]:List Str);decide +kernel) rfl (Or.inl rfl)) Zdd))) (fun _ _ _ _ _=>Zbi) (fun _ _ _ _ _=>(Zb8 (Zaa (pv 0) (Zaa (ZaC (P:=P) (w:=w) (K:=K) (mg:=mg) (base:=base) 4 (hr.mono (by decide)) (pv 1)) (Zaa (ZaC (P:=P) (w:=w) (K:=K) (mg:=mg) (base:=base) 4 (hr.mono (by decide)) (pv 1)) Zab))))) trivial ZjJ))),?_⟩;walk_at "vc";refine ⟨_,_,_,(Zah h1).1,cd.c,cd.n_keyed,.ref kd,rfl,_,_,_,(Zah h1).1,cd.c,cd.n_stretches,.ref sr,rfl,kd,sr,⟨rfl,rfl⟩,⟨_,SqL.of (Zah h2).1⟩,⟨_,SqL.of (Zah h4).1⟩,compG (n:=es.length) (ToI es H) (fun D nD=>⟨Nat.zero_le _,rfl,Same.new nD,Zac,.nil⟩) (fun D i ys H h=>h.le) ?_ ?_ ?_ ?_⟩
 · rintro D ys H3 nD ⟨_,_,sm,_,_⟩
   exact ⟨_,_,SqL.of (sm _ _ (Zah h2).1),SqL.of (sm _ _ (Zah h4).1),.inr (by rw [List.length_map];exact Nat.le_refl _)⟩
 · rintro D i ys H3 nD hi ⟨_,_,sm,_,_⟩
   exact ⟨_,_,_,_,SqL.of (sm _ _ (Zah h2).1),SqL.of (sm _ _ (Zah h4).1),List.getElem?_eq_getElem (by rw [Zal];unfold kys;rw [List.length_map];exact hi),List.getElem?_eq_getElem (by rw [List.length_map];exact hi)⟩
 · rintro D i ys H3 x H4 nD hi ⟨le,len,sm,hD,rows⟩ ⟨T,x1,y1,rfl,nT,rfl,gx,gy⟩
   have he:es[i]?=some es[i]:=List.getElem?_eq_getElem hi;generalize es[i]=e at he;obtain rfl:x1=.int (e.key:Nat):=by have:=gx _ (SqL.of (sm _ _ (Zah h2).1));obtain ⟨p,hp,rfl⟩:=ZbD this;rw [Zgp he] at hp;cases hp;rfl
   obtain rfl:y1=.ref e.loc:=by have:=gy _ (SqL.of (sm _ _ (Zah h4).1));rw [List.getElem?_map,he] at this;exact (Option.some.inj this).symm
   have hin:=List.mem_of_getElem? he;have sT:=Same.new (o:=.tup [.int (e.key:Nat),.ref e.loc]) nT;have st:=(((hm.st e hin).same noT_sub).same sm).same sT;have hD2:=sT _ _ hD;have rows:=Paired.mapP rows fun _ _ h=>h.same sT
   walk_at "vc";refine ⟨_,SqT.of Zac,rfl,?_⟩;walk_at "vc";generalize upd H3 T (.tup [.int (e.key:Nat),.ref e.loc])=H4 at sT st hD2 rows ⊢;obtain ⟨dx2,fs2,ho2,nf2⟩:=st.obj;refine ⟨_,_,⟨rfl,rfl⟩,_,_,rfl,rfl,_,rfl,_,_,_,ho2,nf2.1,_,_,hk _,e.loc,rfl,_,rfl,_,_,_,ho2,nf2.2.1,_,_,hb _,e.loc,e.ps,rfl,st,fun b H5 s5 bi fr=>⟨by decide,fun p np=>?_⟩⟩;have sp:=Same.new (o:=.tup [.int (e.key:Nat),.str (kS (kdOf e.ps)),b]) np;have gp:upd H5 p (.tup [.int (e.key:Nat),.str (kS (kdOf e.ps)),b]) p=some (.tup [.int (e.key:Nat),.str (kS (kdOf e.ps)),b]):=Zac;generalize upd H5 p (.tup [.int (e.key:Nat),.str (kS (kdOf e.ps)),b])=H6 at sp gp ⊢;have hD5:=sp _ _ (s5 _ _ hD2);have rows5:=Paired.mapP rows fun _ _ h=>h.same (s5.trans sp)
   have les:=Zb0 ok;have tk:es.take (i+1)=es.take i++[e]:=by rw [List.take_succ,he];rfl
   refine compYes (by omega) hi (by omega) hD5 ⟨hi,by rw [List.length_append,len];rfl,((sm.trans sT).trans (s5.trans sp)).put nD,Zac,?_⟩;rw [tk];have row:RowD D H6 (.ref p) e:=⟨p,b,rfl,gp,bi.same sp,fun l el z=>by
     have:=fr l el;rw [z,hD2] at this;cases this⟩
   exact Paired.snoc (Paired.mapP rows5 fun _ _ h=>h.away hD5) (row.away hD5)
 · rintro D ys H3 nD ⟨le,len,sm,hD,rows⟩
   rw [List.take_of_length_le (Nat.le_refl _)] at rows;exact q D ys H3 sm hD (Paired.mapP rows fun _ _ ⟨t,b,e1,h1,h2,_⟩=>⟨t,b,e1,h1,h2⟩)
theorem Zjj {H:Hp}:∀ {us:List V} {ks as:List Nat},PrOf H us ((pint ks).zip (pint as))→Tups H us (ks.zip as)
 | _,[],_,h=>by cases h;exact .nil
 | _,_::_,[],h=>by cases h;exact .nil
 | _,k::ks,a::as,h=>by
   cases h with
   | cons r q=>exact .cons r (Zjj q)
def spBookM (c:Kd→Addr)(CM:Addr):Sp:=fun vs H Q _=>∃ (m:Addr) (es:List Ent),vs=[.ref m]∧MkAt c CM (noT H) m es∧∀ l us H',Same H H'→H' l=some (.lst us)→Tups H' us ((kys es).zip (ahs 0 es))→Q (.ref l) H'
theorem ok_bookM (B:Blt mg)(cd:CD_Marks K mg CM):MethAt P w K mg base CM "book" ["self"] 1 (spBookM c CM):=by
 refine MethAt.of cd.c cd.m_book Ze6 (fun vs H Q E h=>?_) (fun f cdv A outer s H vs Q E hr h=>?_)
 · obtain ⟨m,es,rfl,_⟩:=h
   rfl
 obtain ⟨m,es,rfl,hm,q⟩:=h;obtain ⟨dx,kd,ah,sr,h1,h2,h3,h4⟩:=hm.ex;refine ⟨_,(Zae (Zam (ZhD K rfl rfl B.lst rfl B.zip (Zaa (Zau K (pv 0)) (Zaa (Zau K (pv 0)) Zab))))),?_⟩;walk_at "vc";refine ⟨_,_,_,(Zah h1).1,cd.c,cd.n_keyed,.ref kd,rfl,_,_,_,(Zah h1).1,cd.c,cd.n_aheads,.ref ah,rfl,kd,ah,⟨rfl,rfl⟩,_,SqL.of (Zah h2).1,_,SqL.of (Zah h3).1,?_,fun p us H2 s2 np hp pr _=>q p us H2 s2 hp (Zjj pr)⟩;rw [Zal,Zal,ZbB];unfold kys;rw [List.length_map]
def rowD (e:Ent):PyData:=.tuple [.int (e.key:Nat),.str (kS (kdOf e.ps)),bodyD (kdOf e.ps) e.ps]
theorem Zer {H:Hp}:∀ {us:List V} {es:List Ent},Paired (RowAt H) us es→RdDs K H us (es.map rowD)
 | _,_,.nil=>.nil
 | _,_,.cons ⟨t,b,e,h,hb⟩ r=>by
   subst e;exact .cons (.tup (SqT.of h) (.cons (.int _) (.cons (.str _) (.cons (rd_body hb) .nil)))) (Zer r)
theorem Zhp:∀ es:List Ent,PyData.canLayAll0 (es.map rowD)=true∧PyData.depthAll (es.map rowD)≤3
 | []=>⟨rfl,by decide⟩
 | e :: r=>by
   obtain ⟨h1,h2⟩:=Zhp r;obtain ⟨b1,b2⟩:=lay_body (kdOf e.ps) e.ps;have hs:PyData.canLay0 (.str (kS (kdOf e.ps)))=true:=by cases kdOf e.ps<;>decide +kernel
   rw [List.map_cons];refine ⟨?_,?_⟩
   · simp only [PyData.canLayAll0,rowD,PyData.canLay0,b1,h1,Bool.and_true]
     exact hs
   · simp only [PyData.depthAll,rowD,PyData.depth]
     omega
theorem Zep:∀ es:List Ent,SeqAt.noMixAll (es.map rowD) (es.map rowD)=true
 | []=>by simp only [List.map_nil,SeqAt.noMixAll]
 | e :: r=>by
   have h:SeqAt.noMix (rowD e) (rowD e)=true:=by have:=Zih (kdOf e.ps) e.ps;simp only [toldD,SeqAt.noMix,SeqAt.noMixAll,Bool.and_true,Bool.true_and] at this;simp only [rowD,SeqAt.noMix,SeqAt.noMixAll,Bool.and_true,Bool.true_and];exact this
   rw [List.map_cons];simp only [SeqAt.noMixAll,h,Zep r,Bool.and_self]
theorem Zkt {H:Hp}{Q:VK}{a b:Addr}{us vs:List V}{es es':List Ent}(ha:H a=some (.lst us))(hb:H b=some (.lst vs))(h1:Paired (RowAt H) us es)(h2:Paired (RowAt H) vs es')(e:es.map rowD=es'.map rowD)(q:Q (.bl true) H):rEqD K (.ref a) (.ref b) H Q:=by
 have r2:=Zer (K:=K) h2;rw [← e] at r2;obtain ⟨l1,l2⟩:=Zhp es;have sh:SeqAt.shaped (.list (es.map rowD))=true:=by
   show (PyData.canLay0 (.list (es.map rowD))&&decide (PyData.depth (.list (es.map rowD))≤64))=true;rw [Bool.and_eq_true];refine ⟨?_,decide_eq_true ?_⟩
   · simp only [PyData.canLay0]
     exact l1
   · simp only [PyData.depth]
     omega
 exact ⟨.list (es.map rowD),.list (es.map rowD),.lst (SqL.of ha) (Zer h1),.lst (SqL.of hb) r2,sh,sh,by simp only [SeqAt.noMix];exact Zep es,by rw [PySem.Spec.same_self];exact q⟩
def kpE (e:Ent):Nat × List Nat:=(e.key,e.ps)
theorem Zjf {es:List Ent}(ok:EsOk es){e:Ent}(he:e∈es):plcE e.key es=e.ps:=by
 rcases Zcu e.key ok.up with z | ⟨e',z1,z2,z3⟩
 · have:e∈miE e.key es:=List.mem_filter.mpr ⟨he,decide_eq_true rfl⟩
   rw [z] at this;cases this
 · have:e∈miE e.key es:=List.mem_filter.mpr ⟨he,decide_eq_true rfl⟩
   rw [z1,List.mem_singleton] at this;rw [(Zel z1).2,this]
theorem ZfS {es:List Ent}(ok:EsOk es)(k:Nat):k∈kys es↔∃ n∈flat es,n/256=k:=by
 constructor
 · intro h
   obtain ⟨e,he,rfl⟩:=List.mem_map.mp h;obtain ⟨p,r,ep⟩:=List.exists_cons_of_ne_nil (ok.ne e he);have hp:p∈e.ps:=by rw [ep];exact .head _
   have:=ok.plt e he p hp;exact ⟨256*e.key+p,(Zdc ok.plt).mpr ⟨e,he,by omega,by rw [show (256*e.key+p)%256=p by omega];exact hp⟩,by omega⟩
 · rintro ⟨n,hn,rfl⟩
   obtain ⟨e,he,h1,_⟩:=(Zdc ok.plt).mp hn;exact List.mem_map.mpr ⟨e,he,h1⟩
theorem Za5 {es:List Ent}(ok:EsOk es)(k:Nat):Up 0 (plcE k es)∧∀ p∈plcE k es,p<256:=by
 rcases Zcu k ok.up with z | ⟨e,z1,z2,z3⟩
 · rw [(Zf4 z).2]
   exact ⟨trivial,fun _ h=>nomatch h⟩
 · rw [(Zel z1).2]
   exact ⟨ok.pup e z3,ok.plt e z3⟩
theorem Zck {es:List Ent}(ok:EsOk es){k p:Nat}(hp:p<256):p∈plcE k es↔256*k+p∈flat es:=by rw [ZbV ok,show (256*k+p)%256=p by omega,show (256*k+p)/256=k by omega]
theorem kp_eq {es es':List Ent}(ok:EsOk es)(ok':EsOk es')(e:flat es=flat es'):es.map kpE=es'.map kpE:=by
 have hp:∀ k,plcE k es=plcE k es':=fun k=>by
   obtain ⟨u1,l1⟩:=Za5 ok k;obtain ⟨u2,l2⟩:=Za5 ok' k;refine Up.ext u1 u2 fun p=>⟨fun h=>?_,fun h=>?_⟩
   · have:=l1 p h
     rw [Zck ok' this,← e,← Zck ok this];exact h
   · have:=l2 p h
     rw [Zck ok this,e,← Zck ok' this];exact h
 have hk:kys es=kys es':=Up.ext ok.up ok'.up fun k=>by rw [ZfS ok,ZfS ok',e]
 have f:∀ {es:List Ent},EsOk es→es.map kpE=(kys es).map fun k=>(k,plcE k es):=fun {es} ok=>by
   unfold kys;rw [List.map_map];exact List.map_congr_left fun e he=>by show (e.key,e.ps)=(e.key,plcE e.key es);rw [Zjf ok he]
 rw [f ok,f ok',hk];exact List.map_congr_left fun k _=>by rw [hp]
theorem rows_kp {es es':List Ent}(e:es.map kpE=es'.map kpE):es.map rowD=es'.map rowD:=by
 have f:∀ es:List Ent,es.map rowD=(es.map kpE).map fun p=>.tuple [.int (p.1:Nat),.str (kS (kdOf p.2)),bodyD (kdOf p.2) p.2]:=fun es=>by rw [List.map_map];rfl
 rw [f,f,e]
theorem Zi5:∀ (a:Nat) {es es':List Ent},es.map kpE=es'.map kpE→(kys es).zip (ahs a es)=(kys es').zip (ahs a es')
 | _,[],[],_=>rfl
 | _,[],_::_,h=>by cases h
 | _,_::_,[],h=>by cases h
 | a,e::r,e'::r',h=>by
   obtain ⟨h1,h2⟩:=List.cons.inj h;have k:e.key=e'.key:=congrArg Prod.fst h1;have p:e.ps=e'.ps:=congrArg Prod.snd h1;have ih:=Zi5 (a+e.ps.length) h2;show (e.key,a)::(kys r).zip (ahs (a+e.ps.length) r)=(e'.key,a)::(kys r').zip (ahs (a+e'.ps.length) r');rw [ih,k,p]
def spAlike (c:Kd→Addr)(CM:Addr):Sp:=fun vs H Q _=>∃ (m m':Addr) (es es':List Ent),vs=[.ref m,.ref m']∧MkAt c CM (noT H) m es∧MkAt c CM (noT H) m' es'∧EsOk es∧EsOk es'∧flat es=flat es'∧∀ H',Same H H'→Q (.bl true) H'
theorem ok_alike (h_told:MethAt P w K mg base CM "told" ["self"] 5 (spToldM c CM))(h_book:MethAt P w K mg base CM "book" ["self"] 1 (spBookM c CM))(h_many:MethAt P w K mg base CM "many" ["self"] 1 (spManyMM c CM))(d:DefAt K mg "_law_alike" Zdy ["_law_one","_law_other"]):FnAt P w K mg base "_law_alike" ["_law_one","_law_other"] 6 (spAlike c CM):=by
 refine FnAt.of d Zig (fun vs H Q E h=>?_) (fun f cdv A outer s H vs Q E hr h=>?_)
 · obtain ⟨m,m',es,es',rfl,_⟩:=h
   rfl
 obtain ⟨m,m',es,es',rfl,hm,hm',ok,ok',ef,q⟩:=h;refine ⟨_,(Zae (Zam (ZdF (Zbs (ZhY K (hu64 hr)) (ZaC (P:=P) (w:=w) (K:=K) (mg:=mg) (base:=base) 5 (hr.mono (by decide)) (pv 0)) (ZaC (P:=P) (w:=w) (K:=K) (mg:=mg) (base:=base) 5 (hr.mono (by decide)) (pv 1)) (nomark _)) (ZdF (Zbs (ZhY K (hu64 hr)) (ZaC (P:=P) (w:=w) (K:=K) (mg:=mg) (base:=base) 1 (hr.mono (by decide)) (pv 0)) (ZaC (P:=P) (w:=w) (K:=K) (mg:=mg) (base:=base) 1 (hr.mono (by decide)) (pv 1)) (nomark _)) (Zew (Zbs ZbO (ZaC (P:=P) (w:=w) (K:=K) (mg:=mg) (base:=base) 1 (hr.mono (by decide)) (pv 0)) (ZaC (P:=P) (w:=w) (K:=K) (mg:=mg) (base:=base) 1 (hr.mono (by decide)) (pv 1)) (nomark _))))))),?_⟩;have kp:=kp_eq ok ok' ef;obtain ⟨dx,kd,ah,sr,h1,_⟩:=hm.ex;obtain ⟨dx',kd',ah',sr',h1',_⟩:=hm'.ex;walk_at "vc";refine ⟨_,_,_,(Zah h1).1,rfl,_,_,h_told,m,es,rfl,hm,ok,fun l us H2 s2 hl rows=>?_⟩;refine ⟨_,_,_,s2 _ _ (Zah h1').1,rfl,_,_,h_told,m',es',rfl,hm'.same s2.noT,ok',fun l' us' H3 s3 hl' rows'=>?_⟩;have rows:=Paired.mapP rows fun _ _ ⟨t,b,e,h,hb⟩=>(⟨t,b,e,s3 _ _ h,hb.same s3⟩:RowAt H3 _ _)
 refine Zkt (s3 _ _ hl) hl' rows rows' (rows_kp kp) ⟨true,rfl,?_⟩;rw [if_pos rfl];have S:=s2.trans s3;refine ⟨_,_,_,S _ _ (Zah h1).1,rfl,_,_,h_book,m,es,rfl,hm.same S.noT,fun b bs H4 s4 hb tb=>?_⟩;refine ⟨_,_,_,s4 _ _ (S _ _ (Zah h1').1),rfl,_,_,h_book,m',es',rfl,hm'.same (S.trans s4).noT,fun b' bs' H5 s5 hb' tb'=>?_⟩;have S5:=(S.trans s4).trans s5;have tb:=tb.same s5;rw [← Zi5 0 kp] at tb';refine Zif ⟨_,s5 _ _ hb,tb⟩ ⟨_,hb',tb'⟩ ⟨true,?_,?_⟩
 · rw [decide_eq_true rfl]
 rw [if_pos rfl];refine ⟨_,_,_,S5 _ _ (Zah h1).1,rfl,_,_,h_many,m,es,rfl,hm.same S5.noT,?_⟩;refine ⟨_,_,_,S5 _ _ (Zah h1').1,rfl,_,_,h_many,m',es',rfl,hm'.same S5.noT,?_⟩;refine ⟨rfl,?_⟩;rw [show tot es'=tot es by rw [← Zbw,← Zbw,ef],decide_eq_true rfl];exact q H5 S5
end
theorem Zfv {ks:List Int}:∀ {a:Nat},ks.Pairwise (·<·)→(∀ y∈ks,(a:Int)≤y)→∃ os:List Nat,ks=os.map (fun (o:Nat)=>(o:Int))∧Up a os:=by
 induction ks with
 | nil=>exact fun _ _=>⟨[],rfl,trivial⟩
 | cons x r ih =>
   intro a so h;obtain ⟨h1,h2⟩:=List.pairwise_cons.mp so;have hx:=h x (.head _);obtain ⟨os,e,u⟩:=ih (a:=x.toNat+1) h2 fun y hy=>by have:=h1 y hy;omega
   refine ⟨x.toNat::os,?_,by omega,u⟩;rw [List.map_cons,← e,Int.toNat_of_nonneg (by omega)]
theorem Zdm {k:Nat}{os:List Nat}:(k:Int)∈os.map (fun (o:Nat)=>(o:Int))↔k∈os:=by
 rw [List.mem_map];constructor
 · rintro ⟨o,ho,e⟩
   have:o=k:=by omega
   rw [← this];exact ho
 · exact fun h=>⟨k,h,rfl⟩
theorem Zc9 {a:Nat}{ps:List Nat}(h:Up a ps):ps.Nodup:=by
 have h2:(ps.map fun (p:Nat)=>(p:Int)).Nodup:=(Zge h).imp fun h=>Int.ne_of_lt h
 exact List.Pairwise.of_map (fun (p:Nat)=>(p:Int)) (fun a b h e=>h (by rw [e])) h2
def spBoth (c:Kd→Addr)(CM:Addr):Sp:=fun vs H Q _=>∃ (m m':Addr) (es es':List Ent),vs=[.ref m,.ref m']∧MkAt c CM (noT H) m es∧MkAt c CM (noT H) m' es'∧EsOk es∧EsOk es'∧∀ l ks H',Same H H'→H l=none→H' l=some (.lst (pint ks))→Up 0 ks→(∀ k,k∈ks↔k∈kys es∨k∈kys es')→Q (.ref l) H'
def spJoin (op:Bool→Bool→Bool)(c:Kd→Addr)(CM:Addr)(ts:Tabs):Sp:=fun vs H Q _=>∃ (m m':Addr) (es es':List Ent),vs=[.ref m,.ref m']∧MkAt c CM (noT H) m es∧MkAt c CM (noT H) m' es'∧EsOk es∧EsOk es'∧Tbs ts H ∧
 ∀ m2 H' es2,Nx ts H H'→noT H m2=none→MkAt c CM (noT H') m2 es2→EsOk es2→(∀ x,x∈flat es2↔op (decide (x∈flat es)) (decide (x∈flat es'))=true)→Q (.ref m2) H'
structure JoI (c:Kd→Addr)(ts:Tabs)(H:Hp)(ks:List Nat)(g:Nat→List Nat)(D:Addr)(i:Nat)(ys:List V)(H':Hp):Prop where
 le:i≤ks.length
 len:ys.length=i
 nx:Nx ts H H'
 hD:noT H' D=some (.lst ys)
 gp:Gp c (noT H') g ys (ks.take i)
section
variable {P:Program}{w:World}{K:PySem.W.Frag}{mg:Str→Option Value}{base:Heap}{c:Kd→Addr}{CM:Addr}{ts:Tabs}
theorem ok_both (B:Blt mg)(h_key_list:MethAt P w K mg base CM "key_list" ["self"] 1 (spKeyList c CM))(d:DefAt K mg "keys_of_both" ZbE ["one","other"]):FnAt P w K mg base "keys_of_both" ["one","other"] 2 (spBoth c CM):=by
 refine FnAt.of d Zd5 (fun vs H Q E h=>?_) (fun f cdv A outer s H vs Q E hr h=>?_)
 · obtain ⟨m,m',es,es',rfl,_⟩:=h
   rfl
 obtain ⟨m,m',es,es',rfl,hm,hm',ok,ok',q⟩:=h;refine ⟨_,(Zae (Zam (Zf9 K rfl rfl B.sorted rfl B.st (ZaC (P:=P) (w:=w) (K:=K) (mg:=mg) (base:=base) 1 (hr.mono (by decide)) (pv 0)) (ZaC (P:=P) (w:=w) (K:=K) (mg:=mg) (base:=base) 1 (hr.mono (by decide)) (pv 1))))),?_⟩;obtain ⟨dx,kd,ah,sr,h1,_⟩:=hm.ex;obtain ⟨dx',kd',ah',sr',h1',_⟩:=hm'.ex;walk_at "vc";refine ⟨_,_,_,(Zah h1).1,rfl,_,_,h_key_list,m,es,rfl,hm,fun l nl=>?_⟩;have s1:=Same.new (o:=.lst (pint (kys es))) nl;have g1:upd H l (.lst (pint (kys es))) l=some (.lst (pint (kys es))):=Zac;generalize upd H l (.lst (pint (kys es)))=H1 at s1 g1 ⊢;have l1:(kys es).length≤256:=by unfold kys;rw [List.length_map];exact Zb0 ok
 have l2:(kys es').length≤256:=by unfold kys;rw [List.length_map];exact Zb0 ok'
 rw [ZbW] at g1;refine ⟨l,rfl,_,SqL.of g1,by rw [List.length_map];omega,?_⟩;refine ⟨_,_,_,s1 _ _ (Zah h1').1,rfl,_,_,h_key_list,m',es',rfl,hm'.same s1.noT,fun l' nl'=>?_⟩;have s2:=Same.new (o:=.lst (pint (kys es'))) nl';have g2:upd H1 l' (.lst (pint (kys es'))) l'=some (.lst (pint (kys es'))):=Zac;generalize upd H1 l' (.lst (pint (kys es')))=H2 at s2 g2 ⊢;rw [ZbW] at g2;refine ⟨l',rfl,_,SqL.of g2,by rw [List.length_map];omega,fun p zs np so mem=>?_⟩;obtain ⟨os,eo,uo⟩:=Zfv (a:=0) so fun y hy=>by
   rcases (mem y).mp hy with h | h<;>(obtain ⟨n,_,rfl⟩:=List.mem_map.mp h;omega)
 have S:=s1.trans s2;rw [eo,← ZbW];refine q p os _ (S.trans (Same.new np)) (S.free np) Zac uo fun k=>?_
 have:=mem (k:Int);rw [eo,Zdm,Zdm,Zdm] at this;exact this
theorem ZcC {l:Addr}{ks:List Nat}{g:Nat→List Nat}{te:TE}{σ0:L2.St}{caps:List Nat}{H1:Hp}{Q:VK}(hl:noT H1 l=some (.lst (pint ks)))(ht:Tbs ts H1)(uk:Up 0 ks)(hk:∀ k∈ks,k<256∧Up 0 (g k)∧∀ p∈g k,p<256)
   (el:∀ k∈ks,∀ H2 (R:VK),Nx ts H1 H2→(∀ v H3 t,Nx ts H2 H3→KeptIs c H3 (g k) v→H3 t=none→R (.ref t) (upd H3 t (.tup [.int (k:Nat),v])))→te ((capSt 1 caps σ0).set 0 (some (.int (k:Nat)))) H2 R)
   (q:∀ m H' es,Nx ts H1 H'→noT H1 m=none→MkAt c CM (noT H') m es→EsOk es→(∀ k,plcE k es=if k∈ks then g k else [])→Q (.ref m) H') :
   CompJ (Itl K l) 1 caps (gName 0) tNoTest te σ0 H1 (fun x H=>spGath c CM ts [x] H Q E0):=by
 have lk:ks.length≤256:=Up.lt256 uk fun k hk'=>(hk k hk').1
 refine compG (n:=ks.length) (JoI c ts H1 ks g) (fun D nD=>⟨Nat.zero_le _,rfl,Nx.new ht nD,Zaq Zac (nl _),.nil⟩) (fun D i ys H h=>h.le) ?_ ?_ ?_ ?_
 · rintro D ys H3 nD ⟨_,_,nx,_,_⟩
   exact ⟨_,SqL.of (Zah (nx.at hl)).1,by rw [Zal];exact Nat.le_refl _⟩
 · rintro D i ys H3 nD hi ⟨_,_,nx,_,_⟩
   exact ⟨_,_,SqL.of (Zah (nx.at hl)).1,List.getElem?_eq_getElem (by rw [Zal];exact hi)⟩
 · rintro D i ys H3 x H4 nD hi ⟨le,len,nx,hD,gp⟩ ⟨rfl,yy⟩
   obtain ⟨k,hk',rfl⟩:=ZbD (yy _ (SqL.of (Zah (nx.at hl)).1));have pk:=List.mem_of_getElem? hk';obtain ⟨k0,up,lt⟩:=hk k pk;show te ((capSt 1 caps σ0).set 0 (some (.int (k:Nat)))) H4 _;refine el k pk H4 _ nx fun v H5 t nx5 kp ft=>?_
   have nx6:=Nx.new (o':=.tup [.int (k:Nat),v]) nx5.tb ft;have g6:noT (upd H5 t (.tup [.int (k:Nat),v])) t=some (.tup [.int (k:Nat),v]):=Zaq Zac (nt _);have kp:=(kp.same (Same.new (o:=.tup [.int (k:Nat),v]) ft)).noT;generalize upd H5 t (.tup [.int (k:Nat),v])=H6 at nx6 g6 kp ⊢;have nx7:=nx5.trans nx6;have hD:=nx7.at hD;have gp:=gp.same nx7.same;have al:=gp.all;have tk:ks.take (i+1)=ks.take i++[k]:=by rw [List.take_succ,hk'];rfl
   have nu:noT (upd H6 D (.lst (ys++[.ref t])))=upd (noT H6) D (.lst (ys++[.ref t])):=noT_upd (nl _) (.inr ⟨_,hD⟩);refine compYes (by omega) hi (by omega) (Zah hD).1 ⟨hi,by rw [List.length_append,len];rfl,(nx.trans nx7).put (Zb2 nD) (Zah hD).1 trivial,Zaq Zac (nl _),?_⟩;rw [tk,nu];exact Gp.snoc (Paired.mapP gp fun _ _ h=>KPair.away h hD al) (KPair.away ⟨t,v,rfl,g6,kp,up⟩ hD al)
 · rintro D ys H3 nD ⟨le,len,nx,hD,gp⟩
   rw [List.take_of_length_le (Nat.le_refl _)] at gp;exact ⟨D,ys,ks,g,rfl,hD,gp,Zc9 uk,hk,by omega,nx.tb,fun m H' es nx2 nm hm ok pl=>q m H' es (nx.trans nx2) (nx.free nm) hm ok pl⟩
theorem Zdb {op:Bool→Bool→Bool}{g:List Nat→List Nat→List Nat}{es es' es2:List Ent}{ks:List Nat}(ok:EsOk es)(ok':EsOk es')(ok2:EsOk es2)(h0:op false false=false)(hg:∀ ps qs p,p<256→(p∈g ps qs↔op (decide (p∈ps)) (decide (p∈qs))=true))(mem:∀ k,k∈ks↔k∈kys es∨k∈kys es')(pl:∀ k,plcE k es2=if k∈ks then g (plcE k es) (plcE k es') else [])(x:Nat):x∈flat es2↔op (decide (x∈flat es)) (decide (x∈flat es'))=true:=by
 rw [ZbV ok2,pl];have e1:decide (x∈flat es)=decide (x%256∈plcE (x/256) es):=decide_eq_decide.mpr (ZbV ok);have e2:decide (x∈flat es')=decide (x%256∈plcE (x/256) es'):=decide_eq_decide.mpr (ZbV ok');rw [e1,e2];split
 · exact hg _ _ _ (Nat.mod_lt _ (by decide))
 · rename_i nk
   rw [mem,not_or] at nk;have n1:∀ {es:List Ent},EsOk es→x/256∉kys es→decide (x%256∈plcE (x/256) es)=false:=fun ok nk=>decide_eq_false fun h=>nk ((ZfS ok _).mpr ⟨x,(ZbV ok).mpr h,rfl⟩)
   rw [n1 ok nk.1,n1 ok' nk.2,h0];exact ⟨(fun h=>nomatch h),(fun h=>nomatch h)⟩
theorem Zeh {es es':List Ent}(ok:EsOk es)(ok':EsOk es'){k:Nat}(h:k∈kys es∨k∈kys es'):k<256:=by
 rcases h with h | h
 · obtain ⟨e,he,rfl⟩:=List.mem_map.mp h
   exact ok.klt e he
 · obtain ⟨e,he,rfl⟩:=List.mem_map.mp h
   exact ok'.klt e he
theorem ZjS (h_keys_of_both:FnAt P w K mg base "keys_of_both" ["one","other"] 2 (spBoth c CM))(h_word_at:MethAt P w K mg base CM "word_at" ["self","key"] 6 (spWordAt c CM ts))(h_kept:FnAt P w K mg base "kept" ["word"] 4 (spKept c))(h_gathered:FnAt P w K mg base "gathered" ["pairs"] 7 (spGath c CM ts))(d:DefAt K mg "common" ZeJ ["one","other"]):FnAt P w K mg base "common" ["one","other"] 8 (spJoin and c CM ts):=by
 refine FnAt.of d ZjU (fun vs H Q E h=>?_) (fun f cdv A outer s H vs Q E hr h=>?_)
 · obtain ⟨m,m',es,es',rfl,_⟩:=h
   rfl
 obtain ⟨m,m',es,es',rfl,hm,hm',ok,ok',ht,q⟩:=h;refine ⟨_,(Zae (Zam (Zad h_gathered (hr.mono (by decide)) rfl (Zaa (Zbq ["key"] [0,1] rfl (ZaG K (Zad h_keys_of_both (hr.mono (by decide)) rfl (Zaa (pv 0) (Zaa (pv 1) Zab)))) (fun _ _ _ _ _=>Zas (i:=0) (by show List.Nodup (["key","one","other"]:List Str);decide +kernel) rfl (Or.inl rfl)) (fun _ _ _ _ _=>Zbi) (fun _ _ _ _ _=>(Zb8 (Zaa (pv 0) (Zaa (Zad h_kept (hr.mono (by decide)) rfl (Zaa (Zai Zbc (ZaP (P:=P) (w:=w) (K:=K) (mg:=mg) (base:=base) 6 (hr.mono (by decide)) (pv 1) (Zaa (pv 0) Zab)) (ZaP (P:=P) (w:=w) (K:=K) (mg:=mg) (base:=base) 6 (hr.mono (by decide)) (pv 2) (Zaa (pv 0) Zab))) Zab)) Zab)))) ⟨⟨_,rfl,rfl,.inl rfl⟩,⟨⟨_,rfl,rfl,.inl rfl⟩,trivial⟩⟩ ZaH) Zab)))),?_⟩;walk_at "vc";refine ⟨m,m',es,es',rfl,hm,hm',ok,ok',fun l ks H1 s1 fl hl uk mem=>⟨l,rfl,⟨_,SqL.of hl⟩,?_⟩⟩;have nx1:=ht.nx s1;have hk:∀ k∈ks,k<256∧Up 0 (gCom (plcE k es) (plcE k es'))∧∀ p∈gCom (plcE k es) (plcE k es'),p<256:=fun k hk=>⟨Zeh ok ok' ((mem k).mp hk),(Za5 ok k).1.filter,Zik (Za5 ok k).2⟩
 refine ZcC (g:=fun k=>gCom (plcE k es) (plcE k es')) (Zaq hl (nl _)) nx1.tb uk hk (fun k pk H2 R nx2 r=>?_) fun m2 H' es2 nx nm hm2 ok2 pl=>q m2 H' es2 (nx1.trans nx) (nx1.free nm) hm2 ok2 (Zdb ok ok' ok2 rfl (fun ps qs p _=>by unfold gCom;rw [List.mem_filter,decide_eq_true_eq,Bool.and_eq_true,decide_eq_true_eq,decide_eq_true_eq]) mem pl)
 have nxA:=nx1.trans nx2;have hmA':=hm'.same nxA.same;obtain ⟨dx,kd,ah,sr,h1,_⟩:=(hm.same nxA.same).ex;obtain ⟨dx',kd',ah',sr',h1',_⟩:=hmA'.ex;obtain ⟨u1,l1⟩:=Za5 ok k;obtain ⟨u2,l2⟩:=Za5 ok' k;obtain ⟨_,u3,l3⟩:=hk k pk;walk_at "vc";refine ⟨_,_,_,(Zah h1).1,rfl,_,_,h_word_at,m,k,es,rfl,hm.same nxA.same,ok,nxA.tb,fun H3 nx3=>?_⟩;refine ⟨_,_,_,(Zah (nx3.at h1')).1,rfl,_,_,h_word_at,m',k,es',rfl,hmA'.same nx3.same,ok',nx3.tb,fun H4 nx4=>?_⟩;exact ⟨_,rfl,_,rfl,_,by rw [ZiN u1 u2];rfl,u3,l3,fun v H5 s5 kp=>⟨by decide,fun p np=>r v H5 p ((nx3.trans nx4).trans (nx4.tb.nx s5)) kp np⟩⟩
theorem ZjA (h_keys_of_both:FnAt P w K mg base "keys_of_both" ["one","other"] 2 (spBoth c CM))(h_word_at:MethAt P w K mg base CM "word_at" ["self","key"] 6 (spWordAt c CM ts))(h_kept:FnAt P w K mg base "kept" ["word"] 4 (spKept c))(h_gathered:FnAt P w K mg base "gathered" ["pairs"] 7 (spGath c CM ts))(d:DefAt K mg "joined" ZeT ["one","other"]):FnAt P w K mg base "joined" ["one","other"] 8 (spJoin or c CM ts):=by
 refine FnAt.of d Zj3 (fun vs H Q E h=>?_) (fun f cdv A outer s H vs Q E hr h=>?_)
 · obtain ⟨m,m',es,es',rfl,_⟩:=h
   rfl
 obtain ⟨m,m',es,es',rfl,hm,hm',ok,ok',ht,q⟩:=h;refine ⟨_,(Zae (Zam (Zad h_gathered (hr.mono (by decide)) rfl (Zaa (Zbq ["key"] [0,1] rfl (ZaG K (Zad h_keys_of_both (hr.mono (by decide)) rfl (Zaa (pv 0) (Zaa (pv 1) Zab)))) (fun _ _ _ _ _=>Zas (i:=0) (by show List.Nodup (["key","one","other"]:List Str);decide +kernel) rfl (Or.inl rfl)) (fun _ _ _ _ _=>Zbi) (fun _ _ _ _ _=>(Zb8 (Zaa (pv 0) (Zaa (Zad h_kept (hr.mono (by decide)) rfl (Zaa (Zai op_or (ZaP (P:=P) (w:=w) (K:=K) (mg:=mg) (base:=base) 6 (hr.mono (by decide)) (pv 1) (Zaa (pv 0) Zab)) (ZaP (P:=P) (w:=w) (K:=K) (mg:=mg) (base:=base) 6 (hr.mono (by decide)) (pv 2) (Zaa (pv 0) Zab))) Zab)) Zab)))) ⟨⟨_,rfl,rfl,.inl rfl⟩,⟨⟨_,rfl,rfl,.inl rfl⟩,trivial⟩⟩ ZaH) Zab)))),?_⟩;walk_at "vc";refine ⟨m,m',es,es',rfl,hm,hm',ok,ok',fun l ks H1 s1 fl hl uk mem=>⟨l,rfl,⟨_,SqL.of hl⟩,?_⟩⟩;have nx1:=ht.nx s1;have hk:∀ k∈ks,k<256∧Up 0 (gJoin (plcE k es) (plcE k es'))∧∀ p∈gJoin (plcE k es) (plcE k es'),p<256:=fun k hk=>⟨Zeh ok ok' ((mem k).mp hk),Zb1 _ _,Zix⟩
 refine ZcC (g:=fun k=>gJoin (plcE k es) (plcE k es')) (Zaq hl (nl _)) nx1.tb uk hk (fun k pk H2 R nx2 r=>?_) fun m2 H' es2 nx nm hm2 ok2 pl=>q m2 H' es2 (nx1.trans nx) (nx1.free nm) hm2 ok2 (Zdb ok ok' ok2 rfl (fun ps qs p hp=>by unfold gJoin;rw [List.mem_filter,List.mem_range];exact ⟨fun h=>h.2,fun h=>⟨hp,h⟩⟩) mem pl)
 have nxA:=nx1.trans nx2;have hmA':=hm'.same nxA.same;obtain ⟨dx,kd,ah,sr,h1,_⟩:=(hm.same nxA.same).ex;obtain ⟨dx',kd',ah',sr',h1',_⟩:=hmA'.ex;obtain ⟨u1,l1⟩:=Za5 ok k;obtain ⟨u2,l2⟩:=Za5 ok' k;obtain ⟨_,u3,l3⟩:=hk k pk;walk_at "vc";refine ⟨_,_,_,(Zah h1).1,rfl,_,_,h_word_at,m,k,es,rfl,hm.same nxA.same,ok,nxA.tb,fun H3 nx3=>?_⟩;refine ⟨_,_,_,(Zah (nx3.at h1')).1,rfl,_,_,h_word_at,m',k,es',rfl,hmA'.same nx3.same,ok',nx3.tb,fun H4 nx4=>?_⟩;exact ⟨_,rfl,_,rfl,_,by rw [or_wdI u1 u2 l1 l2];rfl,u3,l3,fun v H5 s5 kp=>⟨by decide,fun p np=>r v H5 p ((nx3.trans nx4).trans (nx4.tb.nx s5)) kp np⟩⟩
theorem ok_less (h_keys_of_both:FnAt P w K mg base "keys_of_both" ["one","other"] 2 (spBoth c CM))(h_word_at:MethAt P w K mg base CM "word_at" ["self","key"] 6 (spWordAt c CM ts))(h_kept:FnAt P w K mg base "kept" ["word"] 4 (spKept c))(h_gathered:FnAt P w K mg base "gathered" ["pairs"] 7 (spGath c CM ts))(d:DefAt K mg "less" ZhZ ["one","other"]):FnAt P w K mg base "less" ["one","other"] 8 (spJoin (fun a b=>a&&!b) c CM ts):=by
 refine FnAt.of d sc_less (fun vs H Q E h=>?_) (fun f cdv A outer s H vs Q E hr h=>?_)
 · obtain ⟨m,m',es,es',rfl,_⟩:=h
   rfl
 obtain ⟨m,m',es,es',rfl,hm,hm',ok,ok',ht,q⟩:=h;refine ⟨_,(Zae (Zam (Zad h_gathered (hr.mono (by decide)) rfl (Zaa (Zbq ["key"] [0,1] rfl (ZaG K (Zad h_keys_of_both (hr.mono (by decide)) rfl (Zaa (pv 0) (Zaa (pv 1) Zab)))) (fun _ _ _ _ _=>Zas (i:=0) (by show List.Nodup (["key","one","other"]:List Str);decide +kernel) rfl (Or.inl rfl)) (fun _ _ _ _ _=>Zbi) (fun _ _ _ _ _=>(Zb8 (Zaa (pv 0) (Zaa (Zad h_kept (hr.mono (by decide)) rfl (Zaa (Zai Zbc (ZaP (P:=P) (w:=w) (K:=K) (mg:=mg) (base:=base) 6 (hr.mono (by decide)) (pv 1) (Zaa (pv 0) Zab)) (pe_un un_inv (ZaP (P:=P) (w:=w) (K:=K) (mg:=mg) (base:=base) 6 (hr.mono (by decide)) (pv 2) (Zaa (pv 0) Zab)))) Zab)) Zab)))) ⟨⟨_,rfl,rfl,.inl rfl⟩,⟨⟨_,rfl,rfl,.inl rfl⟩,trivial⟩⟩ ZaH) Zab)))),?_⟩;walk_at "vc";refine ⟨m,m',es,es',rfl,hm,hm',ok,ok',fun l ks H1 s1 fl hl uk mem=>⟨l,rfl,⟨_,SqL.of hl⟩,?_⟩⟩;have nx1:=ht.nx s1;have hk:∀ k∈ks,k<256∧Up 0 (gLess (plcE k es) (plcE k es'))∧∀ p∈gLess (plcE k es) (plcE k es'),p<256:=fun k hk=>⟨Zeh ok ok' ((mem k).mp hk),(Za5 ok k).1.filter,Zik (Za5 ok k).2⟩
 refine ZcC (g:=fun k=>gLess (plcE k es) (plcE k es')) (Zaq hl (nl _)) nx1.tb uk hk (fun k pk H2 R nx2 r=>?_) fun m2 H' es2 nx nm hm2 ok2 pl=>q m2 H' es2 (nx1.trans nx) (nx1.free nm) hm2 ok2 (Zdb (op:=fun a b=>a&&!b) ok ok' ok2 rfl (fun ps qs p _=>by unfold gLess;rw [List.mem_filter,Bool.and_eq_true,decide_eq_true_eq]) mem pl)
 have nxA:=nx1.trans nx2;have hmA':=hm'.same nxA.same;obtain ⟨dx,kd,ah,sr,h1,_⟩:=(hm.same nxA.same).ex;obtain ⟨dx',kd',ah',sr',h1',_⟩:=hmA'.ex;obtain ⟨u1,l1⟩:=Za5 ok k;obtain ⟨u2,l2⟩:=Za5 ok' k;obtain ⟨_,u3,l3⟩:=hk k pk;walk_at "vc";refine ⟨_,_,_,(Zah h1).1,rfl,_,_,h_word_at,m,k,es,rfl,hm.same nxA.same,ok,nxA.tb,fun H3 nx3=>?_⟩;refine ⟨_,_,_,(Zah (nx3.at h1')).1,rfl,_,_,h_word_at,m',k,es',rfl,hmA'.same nx3.same,ok',nx3.tb,fun H4 nx4=>?_⟩;exact ⟨_,rfl,_,rfl,_,by rw [less_wdI u1 u2];rfl,u3,l3,fun v H5 s5 kp=>⟨by decide,fun p np=>r v H5 p ((nx3.trans nx4).trans (nx4.tb.nx s5)) kp np⟩⟩
theorem ZjX (h_keys_of_both:FnAt P w K mg base "keys_of_both" ["one","other"] 2 (spBoth c CM))(h_word_at:MethAt P w K mg base CM "word_at" ["self","key"] 6 (spWordAt c CM ts))(h_kept:FnAt P w K mg base "kept" ["word"] 4 (spKept c))(h_gathered:FnAt P w K mg base "gathered" ["pairs"] 7 (spGath c CM ts))(d:DefAt K mg "either" Zez ["one","other"]):FnAt P w K mg base "either" ["one","other"] 8 (spJoin xor c CM ts):=by
 refine FnAt.of d ZjH (fun vs H Q E h=>?_) (fun f cdv A outer s H vs Q E hr h=>?_)
 · obtain ⟨m,m',es,es',rfl,_⟩:=h
   rfl
 obtain ⟨m,m',es,es',rfl,hm,hm',ok,ok',ht,q⟩:=h;refine ⟨_,(Zae (Zam (Zad h_gathered (hr.mono (by decide)) rfl (Zaa (Zbq ["key"] [0,1] rfl (ZaG K (Zad h_keys_of_both (hr.mono (by decide)) rfl (Zaa (pv 0) (Zaa (pv 1) Zab)))) (fun _ _ _ _ _=>Zas (i:=0) (by show List.Nodup (["key","one","other"]:List Str);decide +kernel) rfl (Or.inl rfl)) (fun _ _ _ _ _=>Zbi) (fun _ _ _ _ _=>(Zb8 (Zaa (pv 0) (Zaa (Zad h_kept (hr.mono (by decide)) rfl (Zaa (Zai op_xor (ZaP (P:=P) (w:=w) (K:=K) (mg:=mg) (base:=base) 6 (hr.mono (by decide)) (pv 1) (Zaa (pv 0) Zab)) (ZaP (P:=P) (w:=w) (K:=K) (mg:=mg) (base:=base) 6 (hr.mono (by decide)) (pv 2) (Zaa (pv 0) Zab))) Zab)) Zab)))) ⟨⟨_,rfl,rfl,.inl rfl⟩,⟨⟨_,rfl,rfl,.inl rfl⟩,trivial⟩⟩ ZaH) Zab)))),?_⟩;walk_at "vc";refine ⟨m,m',es,es',rfl,hm,hm',ok,ok',fun l ks H1 s1 fl hl uk mem=>⟨l,rfl,⟨_,SqL.of hl⟩,?_⟩⟩;have nx1:=ht.nx s1;have hk:∀ k∈ks,k<256∧Up 0 (gEith (plcE k es) (plcE k es'))∧∀ p∈gEith (plcE k es) (plcE k es'),p<256:=fun k hk=>⟨Zeh ok ok' ((mem k).mp hk),Zb1 _ _,Zix⟩
 refine ZcC (g:=fun k=>gEith (plcE k es) (plcE k es')) (Zaq hl (nl _)) nx1.tb uk hk (fun k pk H2 R nx2 r=>?_) fun m2 H' es2 nx nm hm2 ok2 pl=>q m2 H' es2 (nx1.trans nx) (nx1.free nm) hm2 ok2 (Zdb ok ok' ok2 rfl (fun ps qs p hp=>by unfold gEith;rw [List.mem_filter,List.mem_range];exact ⟨fun h=>h.2,fun h=>⟨hp,h⟩⟩) mem pl)
 have nxA:=nx1.trans nx2;have hmA':=hm'.same nxA.same;obtain ⟨dx,kd,ah,sr,h1,_⟩:=(hm.same nxA.same).ex;obtain ⟨dx',kd',ah',sr',h1',_⟩:=hmA'.ex;obtain ⟨u1,l1⟩:=Za5 ok k;obtain ⟨u2,l2⟩:=Za5 ok' k;obtain ⟨_,u3,l3⟩:=hk k pk;walk_at "vc";refine ⟨_,_,_,(Zah h1).1,rfl,_,_,h_word_at,m,k,es,rfl,hm.same nxA.same,ok,nxA.tb,fun H3 nx3=>?_⟩;refine ⟨_,_,_,(Zah (nx3.at h1')).1,rfl,_,_,h_word_at,m',k,es',rfl,hmA'.same nx3.same,ok',nx3.tb,fun H4 nx4=>?_⟩;exact ⟨_,rfl,_,rfl,_,by rw [xor_wdI u1 u2 l1 l2];rfl,u3,l3,fun v H5 s5 kp=>⟨by decide,fun p np=>r v H5 p ((nx3.trans nx4).trans (nx4.tb.nx s5)) kp np⟩⟩
end
def comN (es es':List Ent):Nat:=((flat es).filter fun x=>decide (x∈flat es')).length
def spSharedM (c:Kd→Addr)(CM:Addr)(ts:Tabs):Sp:=fun vs H Q _=>∃ (m m':Addr) (es es':List Ent),vs=[.ref m,.ref m']∧MkAt c CM (noT H) m es∧MkAt c CM (noT H) m' es'∧EsOk es∧EsOk es'∧Tbs ts H∧∀ H',Nx ts H H'→Q (.int (comN es es':Nat)) H'
def spLies (c:Kd→Addr)(CM:Addr)(ts:Tabs):Sp:=fun vs H Q _=>∃ (m m':Addr) (es es':List Ent),vs=[.ref m,.ref m']∧MkAt c CM (noT H) m es∧MkAt c CM (noT H) m' es'∧EsOk es∧EsOk es'∧Tbs ts H∧∀ H',Nx ts H H'→Q (.bl (decide (comN es es'=tot es))) H'
def spWithin (c:Kd→Addr)(CM:Addr)(ts:Tabs):Sp:=fun vs H Q _=>∃ (m m':Addr) (es es':List Ent),vs=[.ref m,.ref m',.bl (decide (comN es es'=tot es))]∧MkAt c CM (noT H) m es∧MkAt c CM (noT H) m' es'∧EsOk es∧EsOk es'∧Tbs ts H∧∀ H',Nx ts H H'→Q (.bl true) H'
structure ShI (ts:Tabs)(H:Hp)(n:Nat)(f:Nat→Nat)(D:Addr)(i:Nat)(ys:List V)(H':Hp):Prop where
 le:i≤n
 eq:ys=(((List.range i).map fun (j:Nat)=>(f j:Int))).map V.int
 nx:Nx ts H H'
 hD:noT H' D=some (.lst ys)
theorem Zja {es':List Ent}(ok':EsOk es'):∀ es:List Ent,(∀ e∈es,∀ p∈e.ps,p<256)→((es.map fun e=>((gCom e.ps (plcE e.key es')).length:Int)).sum)=(comN es es':Nat)
 | [],_=>rfl
 | e :: r,h=>by
   have ih:=Zja ok' r fun e' he=>h e' (.tail _ he)
   unfold comN at ih ⊢;rw [List.map_cons,List.sum_cons,ih];show _=(((e.ps.map (fun p=>256*e.key+p)++flat r).filter fun x=>decide (x∈flat es')).length:Int)
   rw [List.filter_append,List.length_append,List.filter_map,List.length_map];have:(e.ps.filter ((fun x=>decide (x∈flat es')) ∘ fun p=>256*e.key+p))=gCom e.ps (plcE e.key es'):=List.filter_congr fun p hp=>by
     show decide (256*e.key+p∈flat es')=decide (p∈plcE e.key es');exact decide_eq_decide.mpr (Zck ok' (h e (.head _) p hp)).symm
   rw [this];omega
section
variable {P:Program}{w:World}{K:PySem.W.Frag}{mg:Str→Option Value}{base:Heap}{c:Kd→Addr}{CM:Addr}{ts:Tabs}
theorem Zkf (B:Blt mg)(h_key_list:MethAt P w K mg base CM "key_list" ["self"] 1 (spKeyList c CM))(h_word_at:MethAt P w K mg base CM "word_at" ["self","key"] 6 (spWordAt c CM ts))(h_counted:FnAt P w K mg base "counted" ["word"] 2 spCount)(d:DefAt K mg "shared" ZeO ["one","other"]):FnAt P w K mg base "shared" ["one","other"] 7 (spSharedM c CM ts):=by
 refine FnAt.of d Zkp (fun vs H Q E h=>?_) (fun f cdv A outer s H vs Q E hr h=>?_)
 · obtain ⟨m,m',es,es',rfl,_⟩:=h
   rfl
 obtain ⟨m,m',es,es',rfl,hm,hm',ok,ok',ht,q⟩:=h;refine ⟨_,(Zae (Zam (ZaF (Zj7 K) rfl B.sum ZjM (Zaa (Zbq ["key"] [0,1] rfl (ZaG K (ZaC (P:=P) (w:=w) (K:=K) (mg:=mg) (base:=base) 1 (hr.mono (by decide)) (pv 0))) (fun _ _ _ _ _=>Zas (i:=0) (by show List.Nodup (["key","one","other"]:List Str);decide +kernel) rfl (Or.inl rfl)) (fun _ _ _ _ _=>Zbi) (fun _ _ _ _ _=>(Zad h_counted (hr.mono (by decide)) rfl (Zaa (Zai Zbc (ZaP (P:=P) (w:=w) (K:=K) (mg:=mg) (base:=base) 6 (hr.mono (by decide)) (pv 1) (Zaa (pv 0) Zab)) (ZaP (P:=P) (w:=w) (K:=K) (mg:=mg) (base:=base) 6 (hr.mono (by decide)) (pv 2) (Zaa (pv 0) Zab))) Zab))) ⟨⟨_,rfl,rfl,.inl rfl⟩,⟨⟨_,rfl,rfl,.inl rfl⟩,trivial⟩⟩ ZaH) Zab)))),?_⟩;obtain ⟨dx,kd,ah,sr,h1,_⟩:=hm.ex;obtain ⟨dx',kd',ah',sr',h1',_⟩:=hm'.ex;walk_at "vc";refine ⟨_,_,_,(Zah h1).1,rfl,_,_,h_key_list,m,es,rfl,hm,fun l fl=>⟨l,rfl,⟨_,SqL.of Zac⟩,?_⟩⟩;have nx1:=Nx.new (o':=.lst (pint (kys es))) ht fl;have hl:noT (upd H l (.lst (pint (kys es)))) l=some (.lst (pint (kys es))):=Zaq Zac (nl _);generalize upd H l (.lst (pint (kys es)))=H1 at nx1 hl ⊢;have lk:(kys es).length=es.length:=by unfold kys;rw [List.length_map]
 have les:=Zb0 ok;refine compG (n:=es.length) (ShI ts H1 es.length fun j=>match es[j]? with | some e=>(gCom e.ps (plcE e.key es')).length | none=>0) (fun D nD=>⟨Nat.zero_le _,rfl,Nx.new nx1.tb nD,Zaq Zac (nl _)⟩) (fun D i ys H h=>h.le) ?_ ?_ ?_ ?_
 · rintro D ys H3 nD ⟨_,_,nx,_⟩
   exact ⟨_,SqL.of (Zah (nx.at hl)).1,by rw [Zal,lk];exact Nat.le_refl _⟩
 · rintro D i ys H3 nD hi ⟨_,_,nx,_⟩
   exact ⟨_,_,SqL.of (Zah (nx.at hl)).1,List.getElem?_eq_getElem (by rw [Zal,lk];exact hi)⟩
 · rintro D i ys H3 x H4 nD hi ⟨le,ey,nx,hD⟩ ⟨rfl,yy⟩
   have he:es[i]?=some es[i]:=List.getElem?_eq_getElem hi;have ef:(match es[i]? with | some e=>(gCom e.ps (plcE e.key es')).length | none=>0)=(gCom es[i].ps (plcE es[i].key es')).length:=by rw [he]
   generalize es[i]=e at he ef;have hin:=List.mem_of_getElem? he;obtain ⟨k,hk,rfl⟩:=ZbD (yy _ (SqL.of (Zah (nx.at hl)).1));rw [Zgp he] at hk;cases hk;have nxA:=nx1.trans nx;obtain ⟨u2,l2⟩:=Za5 ok' e.key;walk_at "vc";refine ⟨_,_,_,(Zah (nxA.at h1)).1,rfl,_,_,h_word_at,m,e.key,es,rfl,hm.same nxA.same,ok,nxA.tb,fun H5 nx5=>?_⟩;refine ⟨_,_,_,(Zah (nx5.at (nxA.at h1'))).1,rfl,_,_,h_word_at,m',e.key,es',rfl,(hm'.same nxA.same).same nx5.same,ok',nx5.tb,fun H6 nx6=>?_⟩;rw [Zjf ok hin];refine ⟨_,rfl,_,rfl,gCom e.ps (plcE e.key es'),by rw [ZiN (ok.pup e hin) u2];rfl,(ok.pup e hin).filter,Zik (ok.plt e hin),?_⟩;have nx7:=nx5.trans nx6;have hD:=nx7.at hD;refine compYes (by omega) hi (by rw [ey,List.length_map,List.length_map,List.length_range];exact Nat.le_refl _) (Zah hD).1 ⟨hi,?_,(nx.trans nx7).put (Zb2 nD) (Zah hD).1 trivial,Zaq Zac (nl _)⟩;rw [ey,List.range_succ,List.map_append,List.map_append];congr 1
   exact congrArg (fun z:Nat=>[V.int (z:Int)]) ef.symm
 · rintro D ys H3 nD ⟨le,ey,nx,hD⟩
   refine ⟨D,rfl,_,SqL.of (by rw [ey] at hD;exact (Zah hD).1),?_⟩;have:=Zja ok' es ok.plt;have e2:((List.range es.length).map fun (j:Nat)=>(((match es[j]? with | some e=>(gCom e.ps (plcE e.key es')).length | none=>0):Nat):Int))=es.map fun e=>((gCom e.ps (plcE e.key es')).length:Int):=by
     refine List.ext_getElem (by rw [List.length_map,List.length_map,List.length_range]) fun j h1 h2=>?_
     rw [List.length_map] at h2;rw [List.getElem_map,List.getElem_map,List.getElem_range,List.getElem?_eq_getElem h2]
   rw [e2,this];exact q H3 (nx1.trans nx)
theorem ok_lies (h_shared:FnAt P w K mg base "shared" ["one","other"] 7 (spSharedM c CM ts))(h_many:MethAt P w K mg base CM "many" ["self"] 1 (spManyMM c CM))(d:DefAt K mg "lies_in" ZdS ["one","other"]):FnAt P w K mg base "lies_in" ["one","other"] 8 (spLies c CM ts):=by
 refine FnAt.of d ZiH (fun vs H Q E h=>?_) (fun f cdv A outer s H vs Q E hr h=>?_)
 · obtain ⟨m,m',es,es',rfl,_⟩:=h
   rfl
 obtain ⟨m,m',es,es',rfl,hm,hm',ok,ok',ht,q⟩:=h;refine ⟨_,(Zae (Zam (Zbs ZbO (Zad h_shared (hr.mono (by decide)) rfl (Zaa (pv 0) (Zaa (pv 1) Zab))) (ZaC (P:=P) (w:=w) (K:=K) (mg:=mg) (base:=base) 1 (hr.mono (by decide)) (pv 0)) (nomark _)))),?_⟩;obtain ⟨dx,kd,ah,sr,h1,_⟩:=hm.ex;walk_at "vc";refine ⟨m,m',es,es',rfl,hm,hm',ok,ok',ht,fun H1 nx=>?_⟩;refine ⟨_,_,_,(Zah (nx.at h1)).1,rfl,_,_,h_many,m,es,rfl,hm.same nx.same,rfl,?_⟩;have e:decide (V.int (comN es es':Nat)=V.int (tot es:Nat))=decide (comN es es'=tot es):=decide_eq_decide.mpr ⟨fun h=>by have:=V.int.inj h;omega,fun h=>by rw [h]⟩;rw [e];exact q H1 nx
theorem Zku (B:Blt mg)(h_lies_in:FnAt P w K mg base "lies_in" ["one","other"] 8 (spLies c CM ts))(d:DefAt K mg "_law_within" ZcM ["_law_one","_law_other","_law_due"]):FnAt P w K mg base "_law_within" ["_law_one","_law_other","_law_due"] 9 (spWithin c CM ts):=by
 refine FnAt.of d sc_l_within (fun vs H Q E h=>?_) (fun f cdv A outer s H vs Q E hr h=>?_)
 · obtain ⟨m,m',es,es',rfl,_⟩:=h
   rfl
 obtain ⟨m,m',es,es',rfl,hm,hm',ok,ok',ht,q⟩:=h;refine ⟨_,(Zaj (Zao (i:=3) sc_l_within.nd rfl (by walk_at "l") (Zad h_lies_in (hr.mono (by decide)) rfl (Zaa (pv 0) (Zaa (pv 1) Zab))))
     (Zae (Zam (ZdF (ZaF (ZdJ K) rfl B.isi ZeN (Zaa (pv 3) (Zaa (Zgo (v:=.ty "bool") rfl B.bool boot_bool rfl) Zab))) (Zew (Zbs ZbO (pv 3) (pv 2) (nomark _))))))),?_⟩
 walk_at "vc";refine ⟨m,m',es,es',rfl,hm,hm',ok,ok',ht,fun H1 nx=>?_⟩;show rIsi K [V.bl (decide (comN es es'=tot es)),V.ty "bool"] H1 _;rw [Zg3];refine ⟨true,rfl,?_⟩;rw [if_pos rfl];refine ⟨rfl,?_⟩;rw [decide_eq_true rfl];exact q H1 nx
end
structure Dn (kvs:List (Key × V))(ms:List Nat):Prop where
 keys:kvs.map (·.1)=ms.map fun (k:Nat)=>(Sum.inl (k:Int):Key)
 nd:ms.Nodup
theorem ZeA (kvs:List (Key × V))(k:Key)(v:V):(putK kvs k v).map (·.1)=if (valV kvs k).isSome=true then kvs.map (·.1) else kvs.map (·.1)++[k]:=by
 unfold putK;rw [ZbG];split
 · rw [List.map_map]
   refine List.map_congr_left fun kv _=>?_
   show (if kv.1=k then (kv.1,v) else kv).1=kv.1;split<;>rfl
 · rw [List.map_append]
   rfl
section
variable {kvs:List (Key × V)}{ms:List Nat}
theorem inl_nat {x n:Nat}:(Sum.inl (x:Int):Key)=Sum.inl (n:Int)↔x=n:=⟨fun e=>by have:=Sum.inl.inj e;omega,fun e=>by rw [e]⟩
theorem Dn.some (h:Dn kvs ms)(n:Nat):(valV kvs (Sum.inl (n:Int))).isSome=decide (n∈ms):=by
 have e:(kvs.any fun kv=>decide (kv.1=(Sum.inl (n:Int):Key)))=(kvs.map (·.1)).any fun k=>decide (k=(Sum.inl (n:Int):Key)):=by rw [List.any_map];rfl
 rw [← ZbG,e,h.keys,List.any_map,Bool.eq_iff_iff,List.any_eq_true,decide_eq_true_eq];constructor
 · rintro ⟨k,hk,e⟩
   rw [← inl_nat.mp (of_decide_eq_true e)];exact hk
 · exact fun hn=>⟨n,hn,decide_eq_true rfl⟩
theorem Dn.put (h:Dn kvs ms)(n:Nat)(v:V):∃ ms',Dn (putK kvs (Sum.inl (n:Int)) v) ms'∧(∀ x,x∈ms'↔x∈ms∨x=n)∧ms'.length≤ms.length+1:=by
 by_cases hn:n∈ms
 · refine ⟨ms,⟨?_,h.nd⟩,fun x=>⟨.inl,fun z=>z.elim id fun z=>z ▸ hn⟩,Nat.le_succ _⟩
   rw [ZeA,if_pos (by rw [h.some];exact decide_eq_true hn),h.keys]
 · refine ⟨ms++[n],⟨?_,?_⟩,fun x=>by rw [List.mem_append,List.mem_singleton],by rw [List.length_append];exact Nat.le_refl _⟩
   · rw [ZeA,if_neg (by rw [h.some,decide_eq_true_eq];exact hn),h.keys,List.map_append]
     rfl
   · rw [List.nodup_append]
     refine ⟨h.nd,List.nodup_cons.mpr ⟨List.not_mem_nil,.nil⟩,fun a ha b hb e=>hn ?_⟩;rw [List.mem_singleton.mp hb] at e;rw [← e];exact ha
end
structure Nd (ts:Tabs)(m d:Addr)(H H':Hp):Prop where
 same:∀ b o,b≠m→b≠d→noT H b=some o→noT H' b=some o
 tb:Tbs ts H'
section
variable {ts:Tabs}{m d:Addr}{H H' H2:Hp}
end
structure Dm (c:Kd→Addr)(CM:Addr)(H:Hp)(m d:Addr)(es:List Ent)(kvs:List (Key × V))(ms:List Nat):Prop where
 mkA:MkAt c CM (noT H) m es
 ok:EsOk es
 hd:noT H d=some (.dK kvs)
 dn:Dn kvs ms
 mem:∀ x,x∈flat es↔x∈ms
section
variable {c:Kd→Addr}{CM:Addr}{ts:Tabs}{H H':Hp}{m d:Addr}{es:List Ent}{kvs:List (Key × V)}{ms:List Nat}
end
def spPiece36:Sp:=fun vs H Q _=>∃ n home:Int,vs=[.int n,.int home]∧0≤n∧0≤home∧home≤254∧∀ (r:Addr) (zs:List Nat) (H':Hp),Same H H'→H r=none→H' r=some (.lst (pint zs))→zs.length≤140→(∀ z∈zs,z≤65535)→Q (.ref r) H'
structure Pc36 (n home key at_ rest:Int)(H:Hp)(σ:L2.St)(H':Hp):Prop where
 ex:∃ (so:Addr) (zs:List Nat),σ=[some (.int n),some (.int home),some (.int key),some (.int at_),some (.int rest),some (.ref so)]∧H' so=some (.lst (pint zs))∧zs.length≤140
 same:Same H H'
theorem ZeF {m:Nat}{f:Nat→Int}(h:∀ i,0≤f i):((List.range m).filter fun _=>true).map (fun i=>V.int (f i))=pint ((List.range m).map fun i=>(f i).toNat):=by
 rw [List.filter_eq_self.mpr (fun _ _=>rfl)];unfold pint;rw [List.map_map];refine List.map_congr_left fun i _=>?_
 show V.int (f i)=V.int (((f i).toNat:Nat):Int);rw [Int.toNat_of_nonneg (h i)]
def ltV:V→Bool
 | .int z=>decide (z<65536)
 | _=>false
section
variable {P:Program}{w:World}{K:PySem.W.Frag}{mg:Str→Option Value}{base:Heap}
theorem ZiD (B:Blt mg) (d:DefAt K mg "_law_piece" ZdH ["_law_number","_law_home"]):FnAt P w K mg base "_law_piece" ["_law_number","_law_home"] 1 spPiece36:=by
 refine FnAt.of d sc_l_piece (fun vs H Q E h=>?_) (fun f cdv A outer s H vs Q E hr h=>?_)
 · obtain ⟨n,home,rfl,_⟩:=h
   rfl
 obtain ⟨n,home,rfl,n0,h0,h1,q⟩:=h;refine ⟨_,(Zaj (Zao (i:=2) sc_l_piece.nd rfl (by walk_at "l") (Zci (ZaU K) (Za1 (Zaa (pv 1) (Zaa (Zai ZaA (pv 1) Zaf) (Zaa Zaf (Zaa (Zai ZaD (Zai ZaI (pv 0) Zaf) Zaf) Zab))))) (Zai ZaD (pv 0) Zaf) (fun _ _=>rfl)))
     (Zaj (Zao (i:=3) sc_l_piece.nd rfl (by walk_at "l") (Zai ZaA (Zai Zce Zaf (pv 2)) (Zai ZaD (Zai ZaI (pv 0) Zaf) Zaf)))
     (Zaj (Zao (i:=4) sc_l_piece.nd rfl (by walk_at "l") (Zai ZaI (pv 0) Zaf))
     (Zaw (ZcW (i:=5) ["_law_k"] [3] sc_l_piece.nd rfl (by walk_at "l") rfl (ZcG rfl B.range (Zaa (Zai ZaA Zaf (Zai ZaD (Zai ZaI (pv 4) Zaf) Zaf)) Zab)) (fun _ _ _ _ _=>Zas (i:=0) (by show List.Nodup (["_law_k","_law_at"]:List Str);decide +kernel) rfl (Or.inl rfl)) (fun _ _ _ _ _=>Zbi) (fun _ _ _ _ _=>(Zai ZaA (pv 1) (pv 0))) ⟨⟨_,rfl,rfl,.inl rfl⟩,trivial⟩ ZaH)
     (Zaw (ZaK (Zat ZbO (Zai ZaD (pv 4) Zaf) Zaf (nomark _)) (Zae (ZcW (i:=5) ["_law_k"] [3] sc_l_piece.nd rfl (by walk_at "l") rfl (ZcG rfl B.range (Zaa (Zai ZaA Zaf (Zai ZaD (Zai ZaI (pv 4) Zaf) Zaf)) Zab)) (fun _ _ _ _ _=>Zas (i:=0) (by show List.Nodup (["_law_k","_law_at"]:List Str);decide +kernel) rfl (Or.inl rfl)) (fun _ _ _ _ _=>Zbi) (fun _ _ _ _ _=>(Zai ZaA (pv 1) (Zai Zce Zaf (pv 0)))) ⟨⟨_,rfl,rfl,.inl rfl⟩,trivial⟩ ZaH)) Zay)
     (Zaw (ZaK (Zat ZbO (Zai ZaD (pv 4) Zaf) Zaf (nomark _)) (Zae (ZcW (i:=5) ["_law_k"] [3,4] sc_l_piece.nd rfl (by walk_at "l") rfl (ZcG rfl B.range (Zaa (Zai ZaA Zaf (Zai ZaD (Zai ZaI (pv 4) Zaf) Zaf)) Zab)) (fun _ _ _ _ _=>Zas (i:=0) (by show List.Nodup (["_law_k","_law_at","_law_rest"]:List Str);decide +kernel) rfl (Or.inl rfl)) (fun _ _ _ _ _=>Zbi) (fun _ _ _ _ _=>(Zai ZaA (pv 1) (Zai Zce (pv 0) (Zai ZaA Zaf (Zai ZaD (Zai ZaI (pv 2) Zaf) Zaf))))) ⟨⟨_,rfl,rfl,.inl rfl⟩,⟨⟨_,rfl,rfl,.inl rfl⟩,trivial⟩⟩ ZaH)) Zay)
     (Zae (Zam (Zbq ["_law_number"] [] rfl (ZaG K (pv 5)) (fun _ _ _ _ _=>Zas (i:=0) (by show List.Nodup (["_law_number"]:List Str);decide +kernel) rfl (Or.inl rfl)) (fun _ _ _ _ _=>Zjl (Zat ZfM (pv 0) Zaf (nomark _))) (fun _ _ _ _ _=>(pv 0)) trivial ZaH))))))))),?_⟩
 walk_at "vc";refine ⟨by decide,fun p0 np0=>⟨_,SqL.of Zac,?_⟩⟩;have s0:=Same.new (o:=.lst [V.int home,V.int (home+1),V.int 255,V.int (n/4%256)]) np0;generalize upd H p0 (.lst [V.int home,V.int (home+1),V.int 255,V.int (n/4%256)])=H0 at s0 ⊢;obtain ⟨key,ek,k0⟩:∃ key:Int,atI [V.int home,V.int (home+1),V.int 255,V.int (n/4%256)] (n%4)=some (.int key)∧0≤key:=by
   have hk:n%4=0∨n%4=1∨n%4=2∨n%4=3:=by omega
   rcases hk with e | e | e | e<;>rw [e]
   · exact ⟨_,rfl,h0⟩
   · exact ⟨_,rfl,by omega⟩
   · exact ⟨_,rfl,by decide⟩
   · exact ⟨_,rfl,by omega⟩
 refine ⟨_,ek,key,rfl,?_⟩;have a0:0≤256*key+n/1024%256:=by omega
 have r0:0≤n/262144:=by omega
 generalize 256*key+n/1024%256=at_ at a0 ⊢;generalize n/262144=rest at r0 ⊢;have sm:=s0;refine ⟨Pc36 n home key at_ rest H,?_,?_⟩
 · walk_at "vc"
   refine ⟨by omega,by omega,compR (fun _=>true) (fun i=>.int (at_+(i:Int))) (by omega) (fun i H2 R hi s h=>?_) (fun i H2 R hi _ s h=>?_) (fun D nD=>?_)⟩
   · walk_at "vc"
     exact h
   · walk_at "vc"
     exact h
   · rw [ZeF fun i=>by omega]
     exact ⟨⟨D,_,rfl,Zac,by rw [List.length_map,List.length_range];omega⟩,sm.trans (Same.new nD)⟩
 clear sm s0 ek np0 H0;rintro σ H1 ⟨⟨so,zs,rfl,hs,lz⟩,sm⟩;refine ⟨Pc36 n home key at_ rest H,?_,?_⟩
 · walk_at "vc"
   split
   · refine ⟨by omega,by omega,compR (fun _=>true) (fun i=>.int (at_+61*(i:Int))) (by omega) (fun i H2 R hi s h=>?_) (fun i H2 R hi _ s h=>?_) (fun D nD=>?_)⟩
     · walk_at "vc"
       exact h
     · walk_at "vc"
       exact h
     · rw [ZeF fun i=>by omega]
       exact ⟨⟨D,_,rfl,Zac,by rw [List.length_map,List.length_range];omega⟩,sm.trans (Same.new nD)⟩
   · exact ⟨⟨so,zs,rfl,hs,lz⟩,sm⟩
 clear sm hs lz so zs H1;rintro σ H1 ⟨⟨so,zs,rfl,hs,lz⟩,sm⟩;refine ⟨Pc36 n home key at_ rest H,?_,?_⟩
 · walk_at "vc"
   split
   · refine ⟨by omega,by omega,compR (fun _=>true) (fun i=>.int (at_+(i:Int)*(1+rest/3%4))) (by omega) (fun i H2 R hi s h=>?_) (fun i H2 R hi _ s h=>?_) (fun D nD=>?_)⟩
     · walk_at "vc"
       exact h
     · walk_at "vc"
       exact ⟨.inr ⟨by omega,by omega⟩,h⟩
     · rw [ZeF fun i=>Int.add_nonneg a0 (Int.mul_nonneg (by omega) (by omega))]
       exact ⟨⟨D,_,rfl,Zac,by rw [List.length_map,List.length_range];omega⟩,sm.trans (Same.new nD)⟩
   · exact ⟨⟨so,zs,rfl,hs,lz⟩,sm⟩
 clear sm hs lz so zs H1;rintro σ H1 ⟨⟨so,zs,rfl,hs,lz⟩,sm⟩;walk_at "vc";refine ⟨⟨_,SqL.of hs⟩,compL ltV id (SqL.of hs) (by rw [Zal];omega) (fun x H R hx s h=>?_) (fun x H R hx _ s h=>?_) (fun b1 n1=>?_)⟩
 · obtain ⟨z,hz,rfl⟩:=Zcl hx
   walk_at "vc";exact h
 · obtain ⟨z,hz,rfl⟩:=Zcl hx
   walk_at "vc";exact h
 have ef:((pint zs).filter ltV).map id=pint (zs.filter fun z=>decide (z≤65535)):=by
   rw [List.map_id];unfold pint;rw [List.filter_map];refine congrArg _ (List.filter_congr fun z _=>?_);have e:((z:Int)<65536)↔z≤65535:=by omega
   simp only [Function.comp,ltV];exact decide_eq_decide.mpr e
 rw [ef];exact q b1 _ _ (sm.trans (Same.new n1)) (sm.free n1) Zac (Nat.le_trans (List.length_filter_le _ _) lz) fun z hz=>of_decide_eq_true (List.mem_filter.mp hz).2
end
theorem Zb4 (c k:Int):0≤mixI c k∧mixI c k<2147483629:=⟨Int.emod_nonneg _ (by decide),Int.emod_lt_of_pos _ (by decide)⟩
theorem cut_map (ns:List Int)(lo hi:Option Int):∃ ms:List Int,cutV (ns.map V.int) lo hi=ms.map V.int:=by unfold cutV;rw [List.length_map];exact ⟨(ns.drop (HT.sIx ns.length 0 lo)).take (HT.sIx ns.length ns.length hi-HT.sIx ns.length 0 lo),by rw [List.map_take,List.map_drop]⟩
structure SsD (sh d0 d1:Addr)(b:Nat)(H:Hp):Prop where
 ne:d0≠d1
 hs:H sh=some (.lst [.ref d0,.ref d1])
 ex:∃ (k0 k1:List (Key × V)) (m0 m1:List Nat),H d0=some (.dK k0)∧H d1=some (.dK k1)∧Dn k0 m0∧Dn k1 m1∧(∀ x∈m0,x≤65535)∧(∀ x∈m1,x≤65535)∧m0.length≤b∧m1.length≤b
theorem SsD.same {sh d0 d1:Addr}{b:Nat}{H H':Hp}(h:SsD sh d0 d1 b H)(s:Same H H'):SsD sh d0 d1 b H':=by obtain ⟨ne,hs,k0,k1,m0,m1,h0,h1,r⟩:=h;exact ⟨ne,s _ _ hs,k0,k1,m0,m1,s _ _ h0,s _ _ h1,r⟩
theorem SsD.mono {sh d0 d1:Addr}{b b':Nat}{H:Hp}(h:SsD sh d0 d1 b H)(le:b≤b'):SsD sh d0 d1 b' H:=by obtain ⟨ne,hs,k0,k1,m0,m1,h0,h1,a,c,e,f,g,i⟩:=h;exact ⟨ne,hs,k0,k1,m0,m1,h0,h1,a,c,e,f,Nat.le_trans g le,Nat.le_trans i le⟩
def Lft (d0 d1:Addr)(H H':Hp):Prop:=∀ c o,c≠d0→c≠d1→H c=some o→H' c=some o
theorem Dn.len {kvs:List (Key × V)}{ms:List Nat}(h:Dn kvs ms):kvs.length=ms.length:=by have:=congrArg List.length h.keys;rw [List.length_map,List.length_map] at this;exact this
theorem Lft.lst {d0 d1 r sh:Addr}{b:Nat}{H H':Hp}{xs:List V}(l:Lft d0 d1 H H')(h:SsD sh d0 d1 b H)(e:H r=some (.lst xs)):H' r=some (.lst xs):=by obtain ⟨_,_,k0,k1,_,_,h0,h1,_⟩:=h;exact l _ _ (fun z=>by rw [z,h0] at e;cases e) (fun z=>by rw [z,h1] at e;cases e) e
theorem put36 {K:PySem.W.Frag}{H:Hp}{sh d0 d1:Addr}{b x:Nat}{j:Int}{R:Hp→Prop}(h:SsD sh d0 d1 b H)(hj:j=0∨j=1)(hx:x≤65535)(hb:b≤900)(q:∀ H',SsD sh d0 d1 (b+1) H'→Lft d0 d1 H H'→(∀ H0,H0 d0=none→H0 d1=none→Same H0 H→Same H0 H')→R H') :
   ∃ xs,SqL K H sh xs∧∃ v,atI xs j=some v∧∃ a,v=.ref a∧∃ H4,DPut H a (.int (x:Nat)) (.bl true) H4∧R H4:=by
 obtain ⟨ne,hs,k0,k1,m0,m1,h0,h1,n0,n1,b0,b1,l0,l1⟩:=h;refine ⟨_,SqL.of hs,?_⟩;have shd:∀ d k,H d=some (.dK k)→sh≠d:=fun d k e z=>by rw [← z,hs] at e;cases e
 rcases hj with rfl | rfl
 · obtain ⟨ms',dn',mem',l'⟩:=n0.put x (.bl true)
   refine ⟨_,rfl,d0,rfl,_,DPut.k (k:=Sum.inl (x:Int)) h0 (small1000 (by rw [n0.len];omega)),q _ ⟨ne,by rw [Zag (shd _ _ h0)];exact hs,_,k1,ms',m1,Zac,by rw [Zag (Ne.symm ne)];exact h1,dn',n1,fun y hy=>?_,b1,by omega,by omega⟩ (fun c o n _ e=>by rw [Zag n];exact e) fun H0 e0 _ s=>s.put e0⟩;rcases (mem' y).mp hy with z | z
   · exact b0 y z
   · rw [z];exact hx
 · obtain ⟨ms',dn',mem',l'⟩:=n1.put x (.bl true)
   refine ⟨_,rfl,d1,rfl,_,DPut.k (k:=Sum.inl (x:Int)) h1 (small1000 (by rw [n1.len];omega)),q _ ⟨ne,by rw [Zag (shd _ _ h1)];exact hs,k0,_,m0,ms',by rw [Zag ne];exact h0,Zac,n0,dn',b0,fun y hy=>?_,by omega,by omega⟩ (fun c o _ n e=>by rw [Zag n];exact e) fun H0 _ e1 s=>s.put e1⟩;rcases (mem' y).mp hy with z | z
   · exact b1 y z
   · rw [z];exact hx
theorem Dn.keysI {kvs:List (Key × V)}{ms:List Nat}(h:Dn kvs ms):kvs.map (fun x=>x.fst)=(ms.map fun (n:Nat)=>(n:Int)).map Sum.inl:=by rw [List.map_map];exact h.keys
theorem ZiX:∀ {a:Nat} {ps:List Nat} (k:Nat),Up a ps→Up a (ps.take k)
 | _,[],k,h=>by rw [List.take_nil];exact h
 | _,_::_,0,_=>trivial
 | _,p::r,k+1,h=>⟨h.1,ZiX k h.2⟩
theorem Zfw {kvs:List (Key × V)}{ms:List Nat}{zs:List Int}(h:Dn kvs ms)(pm:zs.Perm (ms.map fun (n:Nat)=>(n:Int)))(so:zs.Pairwise (·≤·)):∃ os:List Nat,zs.map V.int=pint os∧Up 0 os∧(∀ n,n∈os↔n∈ms)∧os.length=ms.length:=by
 have n1:(ms.map fun (n:Nat)=>(n:Int)).Nodup:=by rw [List.Nodup,List.pairwise_map];exact h.nd.imp fun h e=>h (by omega)
 have lt:zs.Pairwise (·<·):=(so.and (pm.nodup_iff.mpr n1)).imp fun h=>by omega
 have mem:∀ y,y∈zs↔∃ n∈ms,(n:Int)=y:=fun y=>by rw [pm.mem_iff,List.mem_map]
 obtain ⟨os,eo,uo⟩:=Zfv (a:=0) lt fun y hy=>by
   obtain ⟨n,_,rfl⟩:=(mem y).mp hy;omega
 refine ⟨os,by rw [eo,← ZbW],uo,fun n=>?_,?_⟩
 · have:=mem (n:Int)
   rw [eo,Zdm] at this;rw [this];constructor
   · rintro ⟨k,hk,e⟩
     have:k=n:=by omega
     rw [← this];exact hk
   · exact fun hn=>⟨n,hn,rfl⟩
 · have:=pm.length_eq
   rw [eo,List.length_map,List.length_map] at this;exact this
theorem cut53 (ns:List Int):∃ zs:List Int,cutV (ns.map V.int) (some 5) (some 58)=zs.map V.int∧zs.length≤53:=by obtain ⟨zs,e⟩:=cut_map ns (some 5) (some 58);refine ⟨zs,e,?_⟩;have h:=congrArg List.length e;rw [List.length_map] at h;rw [← h];unfold cutV;rw [show (5:Int)=((5:Nat):Int) from rfl,show (58:Int)=((58:Nat):Int) from rfl,HT.sIx_nat,HT.sIx_nat,List.length_take,List.length_drop];omega
def spSets36 (K:PySem.W.Frag):Sp:=fun vs H Q _=>∃ (a:Addr) (ns:List Int),vs=[.ref a]∧SqL K H a (ns.map V.int)∧∀ r p1 p2 os1 os2 H',Same H H'→H' r=some (.lst [.ref p1,.ref p2])→H' p1=some (.lst (pint os1))→H' p2=some (.lst (pint os2))→Up 0 os1→Up 0 os2→(∀ x∈os1,x≤65535)→(∀ x∈os2,x≤65535)→os1.length≤700→os2.length≤700→Q (.ref r) H'
structure Ss36 (a sh d0 d1:Addr)(home way:Int)(b:Nat)(H:Hp)(σ:L2.St)(H':Hp):Prop where
 ex:∃ v4 v5 v6 v7 v8 v9 v10:Option V,σ=[some (.ref a),some (.int home),some (.int way),some (.ref sh),v4,v5,v6,v7,v8,v9,v10]
 same:Same H H'
 ss:SsD sh d0 d1 b H'
structure So36 (a sh:Addr)(home way:Int)(H:Hp)(σ:L2.St)(H':Hp):Prop where
 ex:∃ (v4 v5 v6 v7 v8:Option V) (p1 p2:Addr) (os1 os2:List Nat),σ=[some (.ref a),some (.int home),some (.int way),some (.ref sh),v4,v5,v6,v7,v8,some (.ref p1),some (.ref p2)]∧H' p1=some (.lst (pint os1))∧H' p2=some (.lst (pint os2))∧Up 0 os1∧Up 0 os2∧(∀ x∈os1,x≤65535)∧(∀ x∈os2,x≤65535)∧os1.length≤700∧os2.length≤700
 same:Same H H'
section
variable {P:Program}{w:World}{K:PySem.W.Frag}{mg:Str→Option Value}{base:Heap}
theorem Zkr (B:Blt mg) (h_l_mixed:FnAt P w K mg base "_law_mixed" ["_law_cell","_law_k"] 1 spMixed) (h_l_cell_at:FnAt P w K mg base "_law_cell_at" ["_law_script","_law_k"] 1 (spCell K)) (h_l_piece:FnAt P w K mg base "_law_piece" ["_law_number","_law_home"] 1 spPiece36) (d:DefAt K mg "_law_sets" ZeX ["_law_script"]):FnAt P w K mg base "_law_sets" ["_law_script"] 2 (spSets36 K):=by
 refine FnAt.of d sc_l_sets (fun vs H Q E h=>?_) (fun f cdv A outer s H vs Q E hr h=>?_)
 · obtain ⟨a,ns,rfl,_⟩:=h
   rfl
 obtain ⟨a,ns,rfl,hS,q⟩:=h;refine ⟨_,(Zaj (Zao (i:=1) sc_l_sets.nd rfl (by walk_at "l") (Zai ZaD (Zad h_l_mixed (hr.mono (by decide)) rfl (Zaa (Zad h_l_cell_at (hr.mono (by decide)) rfl (Zaa (pv 0) (Zaa Zaf Zab))) (Zaa Zaf Zab))) Zaf))
     (Zaj (Zao (i:=2) sc_l_sets.nd rfl (by walk_at "l") (Zai ZaD (Zad h_l_mixed (hr.mono (by decide)) rfl (Zaa (Zad h_l_cell_at (hr.mono (by decide)) rfl (Zaa (pv 0) (Zaa Zaf Zab))) (Zaa Zaf Zab))) Zaf))
     (Zaj (Zao (i:=3) sc_l_sets.nd rfl (by walk_at "l") (Za1 (Zaa ZeB (Zaa ZeB Zab))))
     (Zaw (ZcS PassesOwn.never rfl (ZcG rfl B.range (Zaa Zaf Zab)) (Zas (i:=4) sc_l_sets.nd rfl (by walk_at "l")) (Zaj (Zao (i:=5) sc_l_sets.nd rfl (by walk_at "l") (Zad h_l_mixed (hr.mono (by decide)) rfl (Zaa (Zad h_l_cell_at (hr.mono (by decide)) rfl (Zaa (pv 0) (Zaa (Zai ZaA Zaf (pv 4)) Zab))) (Zaa (Zai ZaA Zaf (pv 4)) Zab))))
     (Zae (ZaK (Zat op_gt (Zai ZaD (Zai ZaI (pv 5) Zaf) Zaf) Zaf (nomark _)) (Zae (ZcS PassesOwn.never rfl (ZaG K (Zad h_l_piece (hr.mono (by decide)) rfl (Zaa (pv 5) (Zaa (pv 1) Zab)))) (Zas (i:=6) sc_l_sets.nd rfl (by walk_at "l")) (Zae (Zea (hu1 hr) (Zci (ZaU K) (pv 3) (Zai ZaD (pv 4) Zaf) (fun _ _=>rfl)) (pv 6) ZbM rfl)))) Zay))))
     (Zaw (ZcS PassesOwn.never rfl (ZaG K (Zba (Zbf K) (pv 0) (Zbu Zaf) (Zbu Zaf))) (Zas (i:=7) sc_l_sets.nd rfl (by walk_at "l")) (Zaj (Zao (i:=5) sc_l_sets.nd rfl (by walk_at "l") (Zad h_l_mixed (hr.mono (by decide)) rfl (Zaa (pv 7) (Zaa Zaf Zab))))
     (Zaj (Zao (i:=8) sc_l_sets.nd rfl (by walk_at "l") (Zai ZaA (Zai Zce Zaf (pv 1)) (Zai ZaD (Zai ZaI (pv 5) Zaf) Zaf)))
     (Zaj (ZaK (Zat ZbO (Zai ZaD (Zai ZaI (pv 5) Zaf) Zaf) Zaf (nomark _)) (Zae (Zao (i:=8) sc_l_sets.nd rfl (by walk_at "l") (Zai ZaD (Zai ZaI (pv 5) Zaf) Zaf))) Zay)
     (Zaj (ZaK (Zat op_ne (Zai ZaD (pv 5) Zaf) Zaf (nomark _)) (Zae (Zea (hu1 hr) (Zci (ZaU K) (pv 3) Zaf (fun _ _=>rfl)) (pv 8) ZbM rfl)) Zay)
     (Zae (ZaK (Zat op_ne (Zai ZaD (pv 5) Zaf) Zaf (nomark _)) (Zae (Zea (hu1 hr) (Zci (ZaU K) (pv 3) Zaf (fun _ _=>rfl)) (pv 8) ZbM rfl)) Zay)))))))
     (Zaj (Zao (i:=9) sc_l_sets.nd rfl (by walk_at "l") (ZaF Zca rfl B.sorted L2.boot_sorted (Zaa (Zci (ZaU K) (pv 3) Zaf (fun _ _=>rfl)) Zab)))
     (Zaw (Zao (i:=10) sc_l_sets.nd rfl (by walk_at "l") (ZaF Zca rfl B.sorted L2.boot_sorted (Zaa (Zci (ZaU K) (pv 3) Zaf (fun _ _=>rfl)) Zab)))
     (Zaw (ZaK (Zat ZbO (pv 2) Zaf (nomark _)) (Zae (Zao (i:=10) sc_l_sets.nd rfl (by walk_at "l") (Za8 (ZaS K) rfl B.lst boot_list (Zaa (pv 9) Zab)))) Zay)
     (Zaw (ZaK (Zat ZbO (pv 2) Zaf (nomark _)) (Zae (Zao (i:=10) sc_l_sets.nd rfl (by walk_at "l") (Zba (Zbf K) (pv 10) ZbQ (Zbu (Zai ZaI (Zai Zce (pv 2) (ZaF (Za7 K) rfl B.len PySem.boot_len (Zaa (pv 10) Zab))) Zaf))))) Zay)
     (Zaw (ZaK (Zat ZbO (pv 2) Zaf (nomark _)) (Zae (Zao (i:=9) sc_l_sets.nd rfl (by walk_at "l") (Za1 Zab))) Zay)
     (Zae (Zam (Za1 (Zaa (pv 9) (Zaa (pv 10) Zab))))))))))))))),?_⟩
 walk_at "vc";refine ⟨a,ns,0,rfl,hS,_,_,rfl,_,rfl,a,ns,0,rfl,hS,_,_,rfl,_,rfl,fun d0 f0 d1 f1=>⟨by decide,fun sh fs=>?_⟩⟩;have hx:=Zb4 (ns.getD 0 0) 500;have hy:=Zb4 (ns.getD 0 0) 501;generalize mixI (ns.getD 0 0) 500=x at hx ⊢;generalize mixI (ns.getD 0 0) 501=y at hy ⊢;have s1:=((Same.new (o:=.dK []) f0).trans (Same.new (o:=.dK []) f1)).trans (Same.new (o:=.lst [.ref d0,.ref d1]) fs);have n01:d0≠d1:=fun z=>by rw [← z,Zac] at f1;cases f1
 have hd0:upd (upd H d0 (.dK [])) d1 (.dK []) d0=some (.dK []):=by rw [Zag n01,Zac]
 have n0s:d0≠sh:=fun z=>by rw [← z,hd0] at fs;cases fs
 have n1s:d1≠sh:=fun z=>by rw [← z,Zac] at fs;cases fs
 have ss:SsD sh d0 d1 0 (upd (upd (upd H d0 (.dK [])) d1 (.dK [])) sh (.lst [.ref d0,.ref d1])):=⟨n01,Zac,[],[],[],[],by rw [Zag n0s,hd0],by rw [Zag n1s,Zac],⟨rfl,List.nodup_nil⟩,⟨rfl,List.nodup_nil⟩,(fun _ h=>nomatch h),(fun _ h=>nomatch h),Nat.le_refl _,Nat.le_refl _⟩
 have e1:H d1=none:=(Same.new (o:=.dK []) f0).free f1;generalize upd (upd (upd H d0 (.dK [])) d1 (.dK [])) sh (.lst [.ref d0,.ref d1])=H1 at s1 ss ⊢;clear hd0 n0s n1s fs f1;have home0:0≤x%255∧x%255≤254:=by omega
 have way0:0≤y%8∧y%8<8:=by omega
 generalize x%255=home at home0 ⊢;generalize y%8=way at way0 ⊢;refine ⟨Ss36 a sh d0 d1 home way 560 H,?_,?_⟩
 · walk_at "vc"
   refine loopR (fun i=>Ss36 a sh d0 d1 home way (140*i) H) ⟨⟨_,_,_,_,_,_,_,rfl⟩,s1,ss⟩ ?_ ?_
   · rintro i σ H2 hi ⟨⟨v4,v5,v6,v7,v8,v9,v10,rfl⟩,sm,ss⟩
     have hi:i<4:=hi;walk_at "vc";rw [show (1:Int)+(i:Int)=((1+i:Nat):Int) by omega];refine ⟨a,ns,1+i,rfl,sm.seq hS,_,_,rfl,_,rfl,?_⟩;have hn:=(Zb4 (ns.getD (1+i) 0) (600+(i:Int))).1;generalize mixI (ns.getD (1+i) 0) (600+(i:Int))=n at hn ⊢;split
     · refine ⟨n,home,rfl,hn,home0.1,home0.2,fun r zs H3 s3 fr hr3 lz bz=>?_⟩
       refine ⟨r,rfl,⟨_,SqL.of hr3⟩,loopL (xs:=pint zs) (fun j σ H'=>Ss36 a sh d0 d1 home way (140*i+j) H σ H'∧(∃ v5 v6 v7 v8 v9 v10:Option V,σ=[some (.ref a),some (.int home),some (.int way),some (.ref sh),some (.int (i:Nat)),v5,v6,v7,v8,v9,v10])∧H' r=some (.lst (pint zs))) ⟨⟨⟨_,_,_,_,_,_,_,rfl⟩,sm.trans s3,ss.same s3⟩,⟨_,_,_,_,_,_,rfl⟩,hr3⟩ ?_ ?_ ?_⟩
       · rintro j σ H4 hj ⟨_,_,hr4⟩
         exact SqL.of hr4
       · rintro j z σ H4 hj ⟨⟨_,sm4,ss4⟩,⟨w5,w6,w7,w8,w9,w10,rfl⟩,hr4⟩
         obtain ⟨p,hp,rfl⟩:=ZbD hj;have lj:=(List.getElem?_eq_some_iff.mp hp).1;walk_at "vc";exact put36 ss4 (by omega) (bz p (List.mem_of_getElem? hp)) (by omega) fun H5 ss5 lf sf=>⟨⟨⟨_,_,_,_,_,_,_,rfl⟩,sf H f0 e1 sm4,ss5⟩,lf.lst ss4 hr4⟩
       · rintro σ H4 ⟨⟨ex,sm4,ss4⟩,_,_⟩
         rw [Zal] at ss4;exact ⟨ex,sm4,ss4.mono (by omega)⟩
     · exact ⟨⟨_,_,_,_,_,_,_,rfl⟩,sm,ss.mono (by omega)⟩
   · rintro σ H2 h
     exact h
 clear ss s1;rintro σ H2 ⟨⟨v4,v5,v6,v7,v8,v9,v10,rfl⟩,sm,ss⟩;refine ⟨Ss36 a sh d0 d1 home way 700 H,?_,?_⟩
 · walk_at "vc"
   refine ⟨_,sm.seq hS,fun p np=>?_⟩;obtain ⟨zs,ez,lz⟩:=cut53 ns;rw [ez];have s3:=Same.new (o:=.lst (zs.map V.int)) np;have gp:upd H2 p (.lst (zs.map V.int)) p=some (.lst (zs.map V.int)):=Zac;generalize upd H2 p (.lst (zs.map V.int))=H3 at s3 gp ⊢;refine ⟨⟨_,SqL.of gp⟩,loopL (xs:=zs.map V.int) (fun j σ H'=>Ss36 a sh d0 d1 home way (560+2*j) H σ H'∧H' p=some (.lst (zs.map V.int))) ⟨⟨⟨_,_,_,_,_,_,_,rfl⟩,sm.trans s3,ss.same s3⟩,gp⟩ ?_ ?_ ?_⟩
   · rintro j σ H4 hj ⟨_,hp4⟩
     exact SqL.of hp4
   · rintro j z σ H4 hj ⟨⟨⟨v4,v5,v6,v7,v8,v9,v10,rfl⟩,sm4,ss4⟩,hp4⟩
     obtain ⟨cz,_,rfl⟩:=List.mem_map.mp (List.mem_of_getElem? hj);have lj:j<zs.length:=by have:=(List.getElem?_eq_some_iff.mp hj).1;rw [List.length_map] at this;exact this
     walk_at "vc";refine ⟨cz,700,rfl,_,rfl,_,rfl,?_⟩;have hn:=(Zb4 cz 700).1;generalize mixI cz 700=n at hn ⊢;split
     · refine ⟨n,rfl,n,rfl,?_⟩
       obtain ⟨z,ez',hz⟩:∃ z:Nat,n/4%65536=(z:Int)∧z≤65535:=⟨(n/4%65536).toNat,by omega,by omega⟩
       rw [ez'];split
       · refine ⟨n,rfl,?_⟩
         split
         · exact ⟨⟨⟨_,_,_,_,_,_,_,rfl⟩,sm4,ss4.mono (by omega)⟩,hp4⟩
         · exact put36 ss4 (.inr rfl) hz (by omega) fun H5 ss5 lf sf=>⟨⟨⟨_,_,_,_,_,_,_,rfl⟩,sf H f0 e1 sm4,ss5.mono (by omega)⟩,lf.lst ss4 hp4⟩
       · refine put36 ss4 (.inl rfl) hz (by omega) fun H5 ss5 lf sf=>?_
         refine ⟨n,rfl,?_⟩;split
         · exact ⟨⟨⟨_,_,_,_,_,_,_,rfl⟩,sf H f0 e1 sm4,ss5.mono (by omega)⟩,lf.lst ss4 hp4⟩
         · exact put36 ss5 (.inr rfl) hz (by omega) fun H6 ss6 lf6 sf6=>⟨⟨⟨_,_,_,_,_,_,_,rfl⟩,sf6 H f0 e1 (sf H f0 e1 sm4),ss6.mono (by omega)⟩,lf6.lst ss5 (lf.lst ss4 hp4)⟩
     · refine ⟨n,rfl,?_⟩
       obtain ⟨z,ez',hz⟩:∃ z:Nat,256*home+n/4%512=(z:Int)∧z≤65535:=⟨(256*home+n/4%512).toNat,by omega,by omega⟩
       rw [ez'];split
       · refine ⟨n,rfl,?_⟩
         split
         · exact ⟨⟨⟨_,_,_,_,_,_,_,rfl⟩,sm4,ss4.mono (by omega)⟩,hp4⟩
         · exact put36 ss4 (.inr rfl) hz (by omega) fun H5 ss5 lf sf=>⟨⟨⟨_,_,_,_,_,_,_,rfl⟩,sf H f0 e1 sm4,ss5.mono (by omega)⟩,lf.lst ss4 hp4⟩
       · refine put36 ss4 (.inl rfl) hz (by omega) fun H5 ss5 lf sf=>?_
         refine ⟨n,rfl,?_⟩;split
         · exact ⟨⟨⟨_,_,_,_,_,_,_,rfl⟩,sf H f0 e1 sm4,ss5.mono (by omega)⟩,lf.lst ss4 hp4⟩
         · exact put36 ss5 (.inr rfl) hz (by omega) fun H6 ss6 lf6 sf6=>⟨⟨⟨_,_,_,_,_,_,_,rfl⟩,sf6 H f0 e1 (sf H f0 e1 sm4),ss6.mono (by omega)⟩,lf6.lst ss5 (lf.lst ss4 hp4)⟩
   · rintro σ H4 ⟨⟨ex,sm4,ss4⟩,_⟩
     rw [List.length_map] at ss4;exact ⟨ex,sm4,ss4.mono (by omega)⟩
 clear ss sm;rintro σ H3 ⟨⟨v4,v5,v6,v7,v8,v9,v10,rfl⟩,sm,ss⟩;walk_at "vc";obtain ⟨ne,hs,k0,k1,m0,m1,h0,h1,n0,n1,b0,b1,l0,l1⟩:=ss;refine ⟨_,SqL.of hs,_,rfl,d0,rfl,k0,h0,_,n0.keysI,fun p1 z1 np1 pm1 so1=>?_⟩;obtain ⟨os1,eo1,u1,mm1,ll1⟩:=Zfw n0 pm1 so1;rw [eo1];have s4:=Same.new (o:=.lst (pint os1)) np1;have g1:upd H3 p1 (.lst (pint os1)) p1=some (.lst (pint os1)):=Zac;generalize upd H3 p1 (.lst (pint os1))=H4 at s4 g1 ⊢;refine ⟨So36 a sh home way H,?_,?_⟩
 · walk_at "vc"
   refine ⟨_,SqL.of (s4 _ _ hs),_,rfl,d1,rfl,k1,s4 _ _ h1,_,n1.keysI,fun p2 z2 np2 pm2 so2=>?_⟩;obtain ⟨os2,eo2,u2,mm2,ll2⟩:=Zfw n1 pm2 so2;rw [eo2];exact ⟨⟨_,_,_,_,_,p1,p2,os1,os2,rfl,Same.new np2 _ _ g1,Zac,u1,u2,fun y hy=>b0 y ((mm1 y).mp hy),fun y hy=>b1 y ((mm2 y).mp hy),by omega,by omega⟩,(sm.trans s4).trans (Same.new np2)⟩
 clear s4 g1 sm h0 h1 n0 n1 b0 b1 l0 l1 hs eo1 u1 mm1 ll1 pm1 so1 np1;rintro σ H5 ⟨⟨v4,v5,v6,v7,v8,p1,p2,os1,os2,rfl,g1,g2,u1,u2,b1,b2,l1,l2⟩,sm⟩;refine ⟨So36 a sh home way H,?_,?_⟩
 · walk_at "vc"
   split
   · exact ⟨_,.inl (SqL.of g1),fun l fl=>⟨⟨_,_,_,_,_,p1,l,os1,os1,rfl,Same.new fl _ _ g1,Zac,u1,u1,b1,b1,l1,l1⟩,sm.trans (Same.new fl)⟩⟩
   · exact ⟨⟨_,_,_,_,_,p1,p2,os1,os2,rfl,g1,g2,u1,u2,b1,b2,l1,l2⟩,sm⟩
 clear g1 g2 u1 u2 b1 b2 l1 l2 sm;rintro σ H6 ⟨⟨v4,v5,v6,v7,v8,p1,p2,os1,os2,rfl,g1,g2,u1,u2,b1,b2,l1,l2⟩,sm⟩;refine ⟨So36 a sh home way H,?_,?_⟩
 · walk_at "vc"
   split
   · rename_i hw
     refine ⟨_,.inl (SqL.of g2),.inl ⟨by omega,by omega⟩,_,SqL.of g2,fun l fl=>?_⟩;have ec:cutV (pint os2) none (some (way*((pint os2).length:Int)/9))=pint (os2.take (2*os2.length/9)):=by rw [Zal,show way*(os2.length:Int)/9=((2*os2.length/9:Nat):Int) by rw [hw];omega,ZeU];unfold pint;rw [List.map_take]
     rw [ec];exact ⟨⟨_,_,_,_,_,p1,l,os1,os2.take (2*os2.length/9),rfl,Same.new fl _ _ g1,Zac,u1,ZiX _ u2,b1,fun y hy=>b2 y (List.mem_of_mem_take hy),l1,by rw [List.length_take];omega⟩,sm.trans (Same.new fl)⟩
   · exact ⟨⟨_,_,_,_,_,p1,p2,os1,os2,rfl,g1,g2,u1,u2,b1,b2,l1,l2⟩,sm⟩
 clear g1 g2 u1 u2 b1 b2 l1 l2 sm;rintro σ H7 ⟨⟨v4,v5,v6,v7,v8,p1,p2,os1,os2,rfl,g1,g2,u1,u2,b1,b2,l1,l2⟩,sm⟩;refine ⟨So36 a sh home way H,?_,?_⟩
 · walk_at "vc"
   split
   · exact ⟨Nat.zero_le _,fun l fl=>⟨⟨_,_,_,_,_,l,p2,[],os2,rfl,Zac,Same.new fl _ _ g2,trivial,u2,(fun _ h=>nomatch h),b2,Nat.zero_le _,l2⟩,sm.trans (Same.new fl)⟩⟩
   · exact ⟨⟨_,_,_,_,_,p1,p2,os1,os2,rfl,g1,g2,u1,u2,b1,b2,l1,l2⟩,sm⟩
 clear g1 g2 u1 u2 b1 b2 l1 l2 sm;rintro σ H8 ⟨⟨v4,v5,v6,v7,v8,p1,p2,os1,os2,rfl,g1,g2,u1,u2,b1,b2,l1,l2⟩,sm⟩;walk_at "vc";exact ⟨by decide,fun r fr=>q r p1 p2 os1 os2 _ (sm.trans (Same.new fr)) Zac (Same.new fr _ _ g1) (Same.new fr _ _ g2) u1 u2 b1 b2 l1 l2⟩
end
def MkP (c:Kd→Addr)(CM:Addr)(H:Hp)(m:Addr)(p:Nat→Bool):Prop:=∃ es,MkAt c CM (noT H) m es∧EsOk es∧∀ x,x∈flat es↔p x=true
section
variable {P:Program}{w:World}{K:PySem.W.Frag}{mg:Str→Option Value}{base:Heap}{c:Kd→Addr}{CM:Addr}{ts:Tabs}
theorem MkP.nx {H H':Hp}{m:Addr}{p:Nat→Bool}(h:MkP c CM H m p)(nx:Nx ts H H'):MkP c CM H' m p:=by obtain ⟨es,h1,h2,h3⟩:=h;exact ⟨es,h1.same nx.same,h2,h3⟩
theorem jn {op:Bool→Bool→Bool}{H:Hp}{Q:VK}{E:XK}{m m':Addr}{p p':Nat→Bool}(hm:MkP c CM H m p)(hm':MkP c CM H m' p')(ht:Tbs ts H)(q:∀ m2 H',Nx ts H H'→MkP c CM H' m2 (fun x=>op (p x) (p' x))→Q (.ref m2) H'):spJoin op c CM ts [.ref m,.ref m'] H Q E:=by
 obtain ⟨es,h1,ok,e⟩:=hm;obtain ⟨es',h1',ok',e'⟩:=hm';refine ⟨m,m',es,es',rfl,h1,h1',ok,ok',ht,fun m2 H' es2 nx _ hm2 ok2 mem=>q m2 H' nx ⟨es2,hm2,ok2,fun x=>?_⟩⟩;rw [mem];have a:decide (x∈flat es)=p x:=by rw [Bool.eq_iff_iff,decide_eq_true_eq];exact e x
 have b:decide (x∈flat es')=p' x:=by rw [Bool.eq_iff_iff,decide_eq_true_eq];exact e' x
 rw [a,b]
theorem al {H:Hp}{Q:VK}{E:XK}{m m':Addr}{p p':Nat→Bool}(hm:MkP c CM H m p)(hm':MkP c CM H m' p')(e:∀ x,p x=p' x)(ht:Tbs ts H)(q:∀ H',Nx ts H H'→Q (.bl true) H'):spAlike c CM [.ref m,.ref m'] H Q E:=by obtain ⟨es,h1,ok,e1⟩:=hm;obtain ⟨es',h1',ok',e1'⟩:=hm';exact ⟨m,m',es,es',rfl,h1,h1',ok,ok',Up.ext ok.flat_up ok'.flat_up fun x=>by rw [e1,e1',e],fun H' s=>q H' (ht.nx s)⟩
def spThree (c:Kd→Addr)(CM:Addr)(ts:Tabs):Sp:=fun vs H Q _=>∃ (a b d:Addr) (pa pb pd:Nat→Bool),vs=[.ref a,.ref b,.ref d]∧MkP c CM H a pa∧MkP c CM H b pb∧MkP c CM H d pd∧Tbs ts H∧∀ H',Nx ts H H'→Q (.bl true) H'
structure Th36 (ts:Tabs)(a b d:Addr)(H:Hp)(σ:L2.St)(H':Hp):Prop where
 ex:σ=[some (.ref a),some (.ref b),some (.ref d)]
 nx:Nx ts H H'
theorem b1 {u v:Bool}:xor (xor u v) v=u:=by cases u<;>cases v<;>rfl
theorem ok_three (h_l_alike:FnAt P w K mg base "_law_alike" ["_law_one","_law_other"] 6 (spAlike c CM))(h_common:FnAt P w K mg base "common" ["one","other"] 8 (spJoin and c CM ts))(h_joined:FnAt P w K mg base "joined" ["one","other"] 8 (spJoin or c CM ts))(h_less:FnAt P w K mg base "less" ["one","other"] 8 (spJoin (fun a b=>a&&!b) c CM ts))(h_either:FnAt P w K mg base "either" ["one","other"] 8 (spJoin xor c CM ts))
   (d:DefAt K mg "_law_three" ZdD ["_law_a","_law_b","_law_c"]):FnAt P w K mg base "_law_three" ["_law_a","_law_b","_law_c"] 9 (spThree c CM ts):=by
 refine FnAt.of d ZiC (fun vs H Q E h=>?_) (fun f cdv A outer s H vs Q E hr h=>?_)
 · obtain ⟨a,b,d,pa,pb,pd,rfl,_⟩:=h
   rfl
 obtain ⟨a,b,d,pa,pb,pd,rfl,hA,hB,hD,ht,q⟩:=h;refine ⟨_,(Zaw (ZaK (ZaZ (ZaO (Zad h_l_alike (hr.mono (by decide)) rfl (Zaa (Zad h_common (hr.mono (by decide)) rfl (Zaa (pv 0) (Zaa (Zad h_joined (hr.mono (by decide)) rfl (Zaa (pv 1) (Zaa (pv 2) Zab))) Zab))) (Zaa (Zad h_joined (hr.mono (by decide)) rfl (Zaa (Zad h_common (hr.mono (by decide)) rfl (Zaa (pv 0) (Zaa (pv 1) Zab))) (Zaa (Zad h_common (hr.mono (by decide)) rfl (Zaa (pv 0) (Zaa (pv 2) Zab))) Zab))) Zab))))) (Zae (Zam ZbM)) Zay)
     (Zaw (ZaK (ZaZ (ZaO (Zad h_l_alike (hr.mono (by decide)) rfl (Zaa (Zad h_less (hr.mono (by decide)) rfl (Zaa (pv 0) (Zaa (Zad h_joined (hr.mono (by decide)) rfl (Zaa (pv 1) (Zaa (pv 2) Zab))) Zab))) (Zaa (Zad h_less (hr.mono (by decide)) rfl (Zaa (Zad h_less (hr.mono (by decide)) rfl (Zaa (pv 0) (Zaa (pv 1) Zab))) (Zaa (pv 2) Zab))) Zab))))) (Zae (Zam ZbM)) Zay)
     (Zaw (ZaK (ZaZ (ZaO (Zad h_l_alike (hr.mono (by decide)) rfl (Zaa (Zad h_less (hr.mono (by decide)) rfl (Zaa (pv 0) (Zaa (Zad h_common (hr.mono (by decide)) rfl (Zaa (pv 1) (Zaa (pv 2) Zab))) Zab))) (Zaa (Zad h_joined (hr.mono (by decide)) rfl (Zaa (Zad h_less (hr.mono (by decide)) rfl (Zaa (pv 0) (Zaa (pv 1) Zab))) (Zaa (Zad h_less (hr.mono (by decide)) rfl (Zaa (pv 0) (Zaa (pv 2) Zab))) Zab))) Zab))))) (Zae (Zam ZbM)) Zay)
     (Zae (Zam (Zad h_l_alike (hr.mono (by decide)) rfl (Zaa (Zad h_either (hr.mono (by decide)) rfl (Zaa (pv 0) (Zaa (Zad h_either (hr.mono (by decide)) rfl (Zaa (pv 1) (Zaa (pv 2) Zab))) Zab))) (Zaa (Zad h_either (hr.mono (by decide)) rfl (Zaa (Zad h_either (hr.mono (by decide)) rfl (Zaa (pv 0) (Zaa (pv 1) Zab))) (Zaa (pv 2) Zab))) Zab)))))))),?_⟩
 refine ⟨Th36 ts a b d H,?_,?_⟩
 · walk_at "vc"
   have ha_a:=hA;have ha_b:=hB;have ha_c:=hD;refine jn ha_b ha_c ht fun m1 H01 n1 h_1=>?_
   have ha_a:=ha_a.nx n1;have ha_b:=ha_b.nx n1;have ha_c:=ha_c.nx n1;refine jn ha_a h_1 n1.tb fun m2 H02 n2 h_2=>?_
   have ha_a:=ha_a.nx n2;have ha_b:=ha_b.nx n2;have ha_c:=ha_c.nx n2;have h_1:=h_1.nx n2;refine jn ha_a ha_b n2.tb fun m3 H03 n3 h_3=>?_
   have ha_a:=ha_a.nx n3;have ha_b:=ha_b.nx n3;have ha_c:=ha_c.nx n3;have h_1:=h_1.nx n3;have h_2:=h_2.nx n3;refine jn ha_a ha_c n3.tb fun m4 H04 n4 h_4=>?_
   have ha_a:=ha_a.nx n4;have ha_b:=ha_b.nx n4;have ha_c:=ha_c.nx n4;have h_1:=h_1.nx n4;have h_2:=h_2.nx n4;have h_3:=h_3.nx n4;refine jn h_3 h_4 n4.tb fun m5 H05 n5 h_5=>?_
   have ha_a:=ha_a.nx n5;have ha_b:=ha_b.nx n5;have ha_c:=ha_c.nx n5;have h_1:=h_1.nx n5;have h_2:=h_2.nx n5;have h_3:=h_3.nx n5;have h_4:=h_4.nx n5;refine al h_2 h_5 (fun x=>by cases pa x<;>cases pb x<;>cases pd x<;>rfl) n5.tb fun H06 n6=>⟨true,rfl,?_⟩
   rw [if_neg (by decide)];exact ⟨rfl,(((((n1.trans n2).trans n3).trans n4).trans n5).trans n6)⟩
 rintro σ H0x ⟨rfl,nx⟩;refine ⟨Th36 ts a b d H,?_,?_⟩
 · walk_at "vc"
   have ha_a:=hA.nx nx;have ha_b:=hB.nx nx;have ha_c:=hD.nx nx;refine jn ha_b ha_c nx.tb fun m1 H11 n1 h_1=>?_
   have ha_a:=ha_a.nx n1;have ha_b:=ha_b.nx n1;have ha_c:=ha_c.nx n1;refine jn ha_a h_1 n1.tb fun m2 H12 n2 h_2=>?_
   have ha_a:=ha_a.nx n2;have ha_b:=ha_b.nx n2;have ha_c:=ha_c.nx n2;have h_1:=h_1.nx n2;refine jn ha_a ha_b n2.tb fun m3 H13 n3 h_3=>?_
   have ha_a:=ha_a.nx n3;have ha_b:=ha_b.nx n3;have ha_c:=ha_c.nx n3;have h_1:=h_1.nx n3;have h_2:=h_2.nx n3;refine jn h_3 ha_c n3.tb fun m4 H14 n4 h_4=>?_
   have ha_a:=ha_a.nx n4;have ha_b:=ha_b.nx n4;have ha_c:=ha_c.nx n4;have h_1:=h_1.nx n4;have h_2:=h_2.nx n4;have h_3:=h_3.nx n4;refine al h_2 h_4 (fun x=>by cases pa x<;>cases pb x<;>cases pd x<;>rfl) n4.tb fun H15 n5=>⟨true,rfl,?_⟩
   rw [if_neg (by decide)];exact ⟨rfl,(nx.trans ((((n1.trans n2).trans n3).trans n4).trans n5))⟩
 rintro σ H1x ⟨rfl,nx⟩;refine ⟨Th36 ts a b d H,?_,?_⟩
 · walk_at "vc"
   have ha_a:=hA.nx nx;have ha_b:=hB.nx nx;have ha_c:=hD.nx nx;refine jn ha_b ha_c nx.tb fun m1 H21 n1 h_1=>?_
   have ha_a:=ha_a.nx n1;have ha_b:=ha_b.nx n1;have ha_c:=ha_c.nx n1;refine jn ha_a h_1 n1.tb fun m2 H22 n2 h_2=>?_
   have ha_a:=ha_a.nx n2;have ha_b:=ha_b.nx n2;have ha_c:=ha_c.nx n2;have h_1:=h_1.nx n2;refine jn ha_a ha_b n2.tb fun m3 H23 n3 h_3=>?_
   have ha_a:=ha_a.nx n3;have ha_b:=ha_b.nx n3;have ha_c:=ha_c.nx n3;have h_1:=h_1.nx n3;have h_2:=h_2.nx n3;refine jn ha_a ha_c n3.tb fun m4 H24 n4 h_4=>?_
   have ha_a:=ha_a.nx n4;have ha_b:=ha_b.nx n4;have ha_c:=ha_c.nx n4;have h_1:=h_1.nx n4;have h_2:=h_2.nx n4;have h_3:=h_3.nx n4;refine jn h_3 h_4 n4.tb fun m5 H25 n5 h_5=>?_
   have ha_a:=ha_a.nx n5;have ha_b:=ha_b.nx n5;have ha_c:=ha_c.nx n5;have h_1:=h_1.nx n5;have h_2:=h_2.nx n5;have h_3:=h_3.nx n5;have h_4:=h_4.nx n5;refine al h_2 h_5 (fun x=>by cases pa x<;>cases pb x<;>cases pd x<;>rfl) n5.tb fun H26 n6=>⟨true,rfl,?_⟩
   rw [if_neg (by decide)];exact ⟨rfl,(nx.trans (((((n1.trans n2).trans n3).trans n4).trans n5).trans n6))⟩
 rintro σ H2x ⟨rfl,nx⟩;walk_at "vc";have ha_a:=hA.nx nx;have ha_b:=hB.nx nx;have ha_c:=hD.nx nx;refine jn ha_b ha_c nx.tb fun m1 H31 n1 h_1=>?_
 have ha_a:=ha_a.nx n1;have ha_b:=ha_b.nx n1;have ha_c:=ha_c.nx n1;refine jn ha_a h_1 n1.tb fun m2 H32 n2 h_2=>?_
 have ha_a:=ha_a.nx n2;have ha_b:=ha_b.nx n2;have ha_c:=ha_c.nx n2;have h_1:=h_1.nx n2;refine jn ha_a ha_b n2.tb fun m3 H33 n3 h_3=>?_
 have ha_a:=ha_a.nx n3;have ha_b:=ha_b.nx n3;have ha_c:=ha_c.nx n3;have h_1:=h_1.nx n3;have h_2:=h_2.nx n3;refine jn h_3 ha_c n3.tb fun m4 H34 n4 h_4=>?_
 have ha_a:=ha_a.nx n4;have ha_b:=ha_b.nx n4;have ha_c:=ha_c.nx n4;have h_1:=h_1.nx n4;have h_2:=h_2.nx n4;have h_3:=h_3.nx n4;refine al h_2 h_4 (fun x=>by cases pa x<;>cases pb x<;>cases pd x<;>rfl) n4.tb fun H35 n5=>?_
 exact q _ (nx.trans ((((n1.trans n2).trans n3).trans n4).trans n5))
def spLaw36 (K:PySem.W.Frag)(ts:Tabs):Sp:=fun vs H Q _=>∃ (a:Addr) (ns:List Int),vs=[.ref a]∧SqL K (noT H) a (ns.map V.int)∧ns.length≤63∧Tbs ts H∧∀ H',Q (.bl true) H'
structure L36 (c:Kd→Addr)(CM:Addr)(ts:Tabs)(sc o1 o2 a b d:Addr)(by_:Int)(os1 os2:List Nat)(pd:Nat→Bool)(σ:L2.St)(H':Hp):Prop where
 ex:σ=[some (.ref sc),some (.ref o1),some (.ref o2),some (.int by_),some (.ref a),some (.ref b),some (.ref d)]
 g1:noT H' o1=some (.lst (pint os1))
 g2:noT H' o2=some (.lst (pint os2))
 hA:MkP c CM H' a (fun x=>decide (x∈os1))
 hB:MkP c CM H' b (fun x=>decide (x∈os2))
 hD:MkP c CM H' d pd
 tb:Tbs ts H'
theorem Zfi (p:Nat→Bool):∀ l:List Nat,(l.filter p).length+(l.filter fun x=>!p x).length=l.length
 | []=>rfl
 | x :: r=>by
   have ih:=Zfi p r;rw [List.filter_cons,List.filter_cons,List.length_cons];cases p x
   · rw [if_neg (by decide),if_pos (by decide),List.length_cons]
     omega
   · rw [if_pos rfl,if_neg (by decide),List.length_cons]
     omega
theorem cnt_join {A B J:List Nat}(uA:Up 0 A)(uB:Up 0 B)(uJ:Up 0 J)(h:∀ x,x∈J↔x∈A∨x∈B):J.length+(A.filter fun x=>decide (x∈B)).length=A.length+B.length:=by
 have eC:(A.filter fun x=>decide (x∈B))=B.filter fun x=>decide (x∈A):=Up.ext uA.filter uB.filter fun x=>by
   rw [List.mem_filter,List.mem_filter,decide_eq_true_eq,decide_eq_true_eq];exact And.comm
 have nd:(A++B.filter fun x=>!decide (x∈A)).Nodup:=by rw [List.nodup_append];refine ⟨Zc9 uA,(Zc9 uB).filter _,fun y hy z hz e=>?_⟩;have:=(List.mem_filter.mp hz).2;rw [← e,decide_eq_true hy] at this;cases this
 have mem:∀ x,x∈(A++B.filter fun x=>!decide (x∈A))↔x∈J:=fun x=>by
   rw [h,List.mem_append,List.mem_filter];by_cases a:x∈A
   · exact ⟨fun _=>.inl a,fun _=>.inl a⟩
   · rw [decide_eq_false a]
     exact ⟨fun z=>z.elim .inl fun z=>.inr z.1,fun z=>z.elim .inl fun z=>.inr ⟨z,rfl⟩⟩
 have e1:J.length=(A++B.filter fun x=>!decide (x∈A)).length:=Nat.le_antisymm ((Zc9 uJ).length_le_of_subset fun x hx=>(mem x).mpr hx) (nd.length_le_of_subset fun x hx=>(mem x).mp hx);have e2:=Zfi (fun x=>decide (x∈A)) B;rw [List.length_append] at e1;rw [eC];omega
theorem flat_nil {es:List Ent}(ok:EsOk es)(h:∀ x,x∉flat es):es=[]:=by
 cases es with
 | nil=>rfl
 | cons e r =>
   obtain ⟨p,s,ep⟩:=List.exists_cons_of_ne_nil (ok.ne e (.head _));exact absurd (show 256*e.key+p∈flat (e::r) from List.mem_append_left _ (List.mem_map.mpr ⟨p,by rw [ep];exact .head _,rfl⟩)) (h _)
theorem MkP.flat {H:Hp}{m:Addr}{os:List Nat}(h:MkP c CM H m fun x=>decide (x∈os))(u:Up 0 os):∃ es,MkAt c CM (noT H) m es∧EsOk es∧flat es=os:=by obtain ⟨es,h1,h2,h3⟩:=h;exact ⟨es,h1,h2,Up.ext h2.flat_up u fun x=>by rw [h3,decide_eq_true_eq]⟩
theorem Zg2 {H:Hp}{m:Addr}{p:Nat→Bool}(h:MkP c CM H m p)(e:∀ x,p x=false):MkAt c CM (noT H) m []:=by obtain ⟨es,h1,h2,h3⟩:=h;rw [← flat_nil h2 fun x hx=>by have:=(h3 x).mp hx;rw [e x] at this;cases this];exact h1
def dvs (by_:Int)(zs:List Nat):List Nat:=zs.filter fun (z:Nat)=>decide ((z:Int)%by_=0)
def divV (by_:Int):V→Bool
 | .int z=>decide (z%by_=0)
 | _=>false
theorem ok_law (B:Blt mg)(h_l_mixed:FnAt P w K mg base "_law_mixed" ["_law_cell","_law_k"] 1 spMixed)(h_l_cell_at:FnAt P w K mg base "_law_cell_at" ["_law_script","_law_k"] 1 (spCell K))(h_l_sets:FnAt P w K mg base "_law_sets" ["_law_script"] 2 (spSets36 K))(h_l_alike:FnAt P w K mg base "_law_alike" ["_law_one","_law_other"] 6 (spAlike c CM))(h_common:FnAt P w K mg base "common" ["one","other"] 8 (spJoin and c CM ts))(h_joined:FnAt P w K mg base "joined" ["one","other"] 8 (spJoin or c CM ts))(h_less:FnAt P w K mg base "less" ["one","other"] 8 (spJoin (fun a b=>a&&!b) c CM ts))(h_either:FnAt P w K mg base "either" ["one","other"] 8 (spJoin xor c CM ts))
   (h_marks_of:FnAt P w K mg base "marks_of" ["numbers"] 9 (spMarksOf c CM ts)) (h_shared:FnAt P w K mg base "shared" ["one","other"] 7 (spSharedM c CM ts)) (h_l_within:FnAt P w K mg base "_law_within" ["_law_one","_law_other","_law_due"] 9 (spWithin c CM ts)) (h_l_three:FnAt P w K mg base "_law_three" ["_law_a","_law_b","_law_c"] 9 (spThree c CM ts)) (h_told:MethAt P w K mg base CM "told" ["self"] 5 (spToldM c CM)) (h_many:MethAt P w K mg base CM "many" ["self"] 1 (spManyMM c CM))
   {fa:Addr} {fd:FuncData} (FL:Fun K "law" "law" Zey fa fd):FnOk P w K mg base CX0 11 fa fd ["_law_script"] (spLaw36 K ts):=by
 refine FL.ok sc_law (fun vs H Q E h=>?_) (fun cdv A outer s H vs Q E hr h=>?_)
 · obtain ⟨a,ns,rfl,_⟩:=h
   rfl
 obtain ⟨sc,ns,rfl,hS,h63,ht,q⟩:=h;refine ⟨_,(Zaj (ps_asg (Zad h_l_sets (hr.mono (by decide)) rfl (Zaa (pv 0) Zab)) (pg_lstK K rfl (ZaR (Zas (i:=1) sc_law.nd rfl (by walk_at "l")) (ZaR (Zas (i:=2) sc_law.nd rfl (by walk_at "l")) Zdd))))
     (Zaj (Zao (i:=3) sc_law.nd rfl (by walk_at "l") (Zai ZaA Zaf (Zai ZaD (Zad h_l_mixed (hr.mono (by decide)) rfl (Zaa (Zad h_l_cell_at (hr.mono (by decide)) rfl (Zaa (pv 0) (Zaa Zaf Zab))) (Zaa Zaf Zab))) Zaf)))
     (Zaj (Zao (i:=4) sc_law.nd rfl (by walk_at "l") (Zad h_marks_of (hr.mono (by decide)) rfl (Zaa (Za8 (ZaS K) rfl B.lst boot_list (Zaa (pv 1) Zab)) Zab)))
     (Zaj (Zao (i:=5) sc_law.nd rfl (by walk_at "l") (Zad h_marks_of (hr.mono (by decide)) rfl (Zaa (Za8 (ZaS K) rfl B.lst boot_list (Zaa (pv 2) Zab)) Zab)))
     (Zaw (Zao (i:=6) sc_law.nd rfl (by walk_at "l") (Zad h_marks_of (hr.mono (by decide)) rfl (Zaa (Zba (Zbf K) (Zbq ["_law_number"] [3] rfl (ZaG K (Zai Zc7 (pv 1) (pv 2))) (fun _ _ _ _ _=>Zas (i:=0) (by show List.Nodup (["_law_number","_law_by"]:List Str);decide +kernel) rfl (Or.inl rfl)) (fun _ _ _ _ _=>Zjl (Zat ZbO (Zai ZaD (pv 0) (pv 1)) Zaf (nomark _))) (fun _ _ _ _ _=>(pv 0)) ⟨⟨_,rfl,rfl,.inl rfl⟩,trivial⟩ ZaH) ZbQ (Zbu Zaf)) Zab)))
     (Zaw (ZaK (PW.pt (ZdX (ZaZ (ZaO (Zad h_l_alike (hr.mono (by decide)) rfl (Zaa (Zad h_either (hr.mono (by decide)) rfl (Zaa (Zad h_either (hr.mono (by decide)) rfl (Zaa (pv 4) (Zaa (pv 5) Zab))) (Zaa (pv 5) Zab))) (Zaa (pv 4) Zab))))) (ZcO (ZaZ (ZaO (Zad h_l_alike (hr.mono (by decide)) rfl (Zaa (Zad h_either (hr.mono (by decide)) rfl (Zaa (pv 4) (Zaa (pv 5) Zab))) (Zaa (Zad h_either (hr.mono (by decide)) rfl (Zaa (pv 5) (Zaa (pv 4) Zab))) Zab)))))))) (Zae (Zam ZbM)) Zay)
     (Zaw (ZaK (PW.pt (ZdX (ZaZ (ZaO (Zad h_l_alike (hr.mono (by decide)) rfl (Zaa (Zad h_joined (hr.mono (by decide)) rfl (Zaa (Zad h_less (hr.mono (by decide)) rfl (Zaa (pv 4) (Zaa (pv 5) Zab))) (Zaa (Zad h_common (hr.mono (by decide)) rfl (Zaa (pv 4) (Zaa (pv 5) Zab))) Zab))) (Zaa (pv 4) Zab))))) (ZcO (ZaZ (ZaO (Zad h_l_alike (hr.mono (by decide)) rfl (Zaa (Zad h_joined (hr.mono (by decide)) rfl (Zaa (pv 4) (Zaa (pv 5) Zab))) (Zaa (Zad h_joined (hr.mono (by decide)) rfl (Zaa (pv 5) (Zaa (pv 4) Zab))) Zab)))))))) (Zae (Zam ZbM)) Zay)
     (Zaw (ZaK (PW.pt (ZdX (ZaZ (ZaO (Zad h_l_alike (hr.mono (by decide)) rfl (Zaa (Zad h_common (hr.mono (by decide)) rfl (Zaa (pv 4) (Zaa (pv 5) Zab))) (Zaa (Zad h_common (hr.mono (by decide)) rfl (Zaa (pv 5) (Zaa (pv 4) Zab))) Zab))))) (ZcO (ZaZ (ZaO (Zad h_l_alike (hr.mono (by decide)) rfl (Zaa (Zad h_less (hr.mono (by decide)) rfl (Zaa (pv 4) (Zaa (Zad h_common (hr.mono (by decide)) rfl (Zaa (pv 4) (Zaa (pv 5) Zab))) Zab))) (Zaa (Zad h_less (hr.mono (by decide)) rfl (Zaa (pv 4) (Zaa (pv 5) Zab))) Zab)))))))) (Zae (Zam ZbM)) Zay)
     (Zaw (ZaK (PW.pt (ZdX (ZaZ (ZaO (Zad h_l_alike (hr.mono (by decide)) rfl (Zaa (Zad h_joined (hr.mono (by decide)) rfl (Zaa (pv 4) (Zaa (pv 4) Zab))) (Zaa (pv 4) Zab))))) (ZdX (ZaZ (ZaO (Zad h_l_alike (hr.mono (by decide)) rfl (Zaa (Zad h_common (hr.mono (by decide)) rfl (Zaa (pv 4) (Zaa (pv 4) Zab))) (Zaa (pv 4) Zab))))) (ZcO (Zat (op_neD K (hu64 hr)) (ZaC (P:=P) (w:=w) (K:=K) (mg:=mg) (base:=base) 5 (hr.mono (by decide)) (Zad h_either (hr.mono (by decide)) rfl (Zaa (pv 4) (Zaa (pv 4) Zab)))) (Za1 Zab) (nomark _)))))) (Zae (Zam ZbM)) Zay)
     (Zaw (ZaK (PW.pt (ZdX (Zat op_ne (Zai ZaA (ZaC (P:=P) (w:=w) (K:=K) (mg:=mg) (base:=base) 1 (hr.mono (by decide)) (Zad h_joined (hr.mono (by decide)) rfl (Zaa (pv 4) (Zaa (pv 5) Zab)))) (Zad h_shared (hr.mono (by decide)) rfl (Zaa (pv 4) (Zaa (pv 5) Zab)))) (Zai ZaA (ZaF (Za7 K) rfl B.len PySem.boot_len (Zaa (pv 1) Zab)) (ZaF (Za7 K) rfl B.len PySem.boot_len (Zaa (pv 2) Zab))) (nomark _)) (ZcO (ZaZ (ZaO (Zad h_l_three (hr.mono (by decide)) rfl (Zaa (pv 4) (Zaa (pv 5) (Zaa (pv 6) Zab))))))))) (Zae (Zam ZbM)) Zay)
     (Zaw (ZaK (PW.pt (ZdX (ZaZ (ZaO (Zad h_l_within (hr.mono (by decide)) rfl (Zaa (Zad h_common (hr.mono (by decide)) rfl (Zaa (pv 4) (Zaa (pv 5) Zab))) (Zaa (pv 4) (Zaa ZbM Zab)))))) (ZcO (ZaZ (ZaO (Zad h_l_within (hr.mono (by decide)) rfl (Zaa (pv 4) (Zaa (Zad h_joined (hr.mono (by decide)) rfl (Zaa (pv 4) (Zaa (pv 5) Zab))) (Zaa ZbM Zab))))))))) (Zae (Zam ZbM)) Zay)
     (Zae (Zam (ZdF (Zad h_l_within (hr.mono (by decide)) rfl (Zaa (pv 4) (Zaa (pv 5) (Zaa (Zbs ZbO (ZaC (P:=P) (w:=w) (K:=K) (mg:=mg) (base:=base) 1 (hr.mono (by decide)) (Zad h_common (hr.mono (by decide)) rfl (Zaa (pv 4) (Zaa (pv 5) Zab)))) (ZaF (Za7 K) rfl B.len PySem.boot_len (Zaa (pv 1) Zab)) (nomark _)) Zab)))) (Zew (Zbs (ZhY K (hu64 hr)) (ZaC (P:=P) (w:=w) (K:=K) (mg:=mg) (base:=base) 5 (hr.mono (by decide)) (Zad h_less (hr.mono (by decide)) rfl (Zaa (pv 4) (Zaa (pv 4) Zab)))) (Za1 Zab) (nomark _))))))))))))))))),?_⟩
 walk_at "vc";refine ⟨sc,ns,rfl,hS.noT,fun r o1 o2 os1 os2 H1 s1 hr g1 g2 u1 u2 b1 b2 l1 l2=>?_⟩;refine ⟨r,rfl,_,SqL.of hr,rfl,_,_,rfl,_,_,rfl,rfl,sc,ns,0,rfl,s1.seq hS.noT,_,_,rfl,_,rfl,?_⟩;have hby:=Zb4 (ns.getD 0 0) 502;generalize mixI (ns.getD 0 0) 502=y at hby ⊢;have by0:0<2+y%40:=by omega
 generalize 2+y%40=by_ at by0 ⊢;refine ⟨o1,rfl,_,.inl (SqL.of g1),fun la fla=>?_⟩;have nx1:=ht.nx s1;have nxA:=Nx.new (o':=.lst (pint os1)) nx1.tb fla;have g1:=Zaq g1 (nl _);have g2:=Zaq g2 (nl _);refine ⟨la,os1,rfl,Zaq Zac (nl _),b1,by omega,nxA.tb,fun a H2 es nxB _ hm ok mem=>?_⟩;have n2:=nxA.trans nxB;have hA:MkP c CM H2 a (fun x=>decide (x∈os1)):=⟨es,hm,ok,fun x=>by rw [mem,decide_eq_true_eq]⟩
 have g1:=n2.at g1;have g2:=n2.at g2;clear nxA nxB hm mem ok;refine ⟨o2,rfl,_,.inl (SqL.of (Zah g2).1),fun lb flb=>?_⟩;have nxA:=Nx.new (o':=.lst (pint os2)) n2.tb flb;refine ⟨lb,os2,rfl,Zaq Zac (nl _),b2,by omega,nxA.tb,fun b H3 es' nxB _ hm ok mem=>?_⟩;have n3:=nxA.trans nxB;have hB:MkP c CM H3 b (fun x=>decide (x∈os2)):=⟨es',hm,ok,fun x=>by rw [mem,decide_eq_true_eq]⟩
 have hA:=hA.nx n3;have g1:=n3.at g1;have g2:=n3.at g2;have t3:=n3.tb;clear nxA nxB hm mem ok n3 n2 nx1 s1 hr;refine ⟨fun σ H'=>∃ d pd,L36 c CM ts sc o1 o2 a b d by_ os1 os2 pd σ H',?_,?_⟩
 · walk_at "vc"
   refine ⟨_,(Zah g1).1,_,(Zah g2).1,by rw [Zal,Zal,sizeLine_eq];omega,fun p fp=>?_⟩;have ep:pint os1++pint os2=pint (os1++os2):=by unfold pint;rw [List.map_append]
   rw [ep];have n4:=Nx.new (o':=.lst (pint (os1++os2))) t3 fp;have gp:upd H3 p (.lst (pint (os1++os2))) p=some (.lst (pint (os1++os2))):=Zac;generalize upd H3 p (.lst (pint (os1++os2)))=H4 at n4 gp ⊢;refine ⟨⟨_,SqL.of gp⟩,compL (divV by_) id (SqL.of gp) (by rw [Zal,List.length_append];omega) (fun x H R hx s h=>?_) (fun x H R hx _ s h=>?_) (fun l fl=>?_)⟩
   · obtain ⟨z,hz,rfl⟩:=Zcl hx
     walk_at "vc";exact ⟨by0,h⟩
   · obtain ⟨z,hz,rfl⟩:=Zcl hx
     walk_at "vc";exact h
   have ef:((pint (os1++os2)).filter (divV by_)).map id=pint (dvs by_ (os1++os2)):=by rw [List.map_id];unfold pint dvs;rw [List.filter_map];rfl
   rw [ef];refine ⟨l,rfl,_,SqL.of Zac,fun l2 fl2=>?_⟩;have ec:cutV (pint (dvs by_ (os1++os2))) none (some 1000)=pint ((dvs by_ (os1++os2)).take 1000):=by rw [show (1000:Int)=((1000:Nat):Int) from rfl,ZeU];unfold pint;rw [List.map_take]
   rw [ec];have n5:=Nx.new (o':=.lst (pint (dvs by_ (os1++os2)))) n4.tb fl;have n6:=Nx.new (o':=.lst (pint ((dvs by_ (os1++os2)).take 1000))) n5.tb fl2;have nn:=(n4.trans n5).trans n6;refine ⟨l2,(dvs by_ (os1++os2)).take 1000,rfl,Zaq Zac (nl _),fun z hz=>?_,by rw [List.length_take];omega,n6.tb,fun d H7 es n7 _ hm ok mem=>?_⟩
   · have:=(List.mem_filter.mp (List.mem_of_mem_take hz)).1
     rcases List.mem_append.mp this with z1 | z1
     · exact b1 z z1
     · exact b2 z z1
   · have n8:=nn.trans n7
     exact ⟨d,fun x=>decide (x∈(dvs by_ (os1++os2)).take 1000),rfl,n8.at g1,n8.at g2,hA.nx n8,hB.nx n8,⟨es,hm,ok,fun x=>by rw [mem,decide_eq_true_eq]⟩,n8.tb⟩
 clear hA hB g1 g2 t3;rintro σ H4 ⟨d,pd,rfl,g1,g2,ha_a,ha_b,ha_c,tb⟩;refine ⟨L36 c CM ts sc o1 o2 a b d by_ os1 os2 pd,?_,?_⟩
 · walk_at "vc"
   refine jn ha_a ha_b tb fun m1 H101 n1 h_1=>?_
   have ha_a:=ha_a.nx n1;have ha_b:=ha_b.nx n1;have ha_c:=ha_c.nx n1;have g1:=n1.at g1;have g2:=n1.at g2;refine jn h_1 ha_b n1.tb fun m2 H102 n2 h_2=>?_
   have ha_a:=ha_a.nx n2;have ha_b:=ha_b.nx n2;have ha_c:=ha_c.nx n2;have h_1:=h_1.nx n2;have g1:=n2.at g1;have g2:=n2.at g2;refine al h_2 ha_a (fun x=>by cases decide (x∈os1)<;>cases decide (x∈os2)<;>cases pd x<;>rfl) n2.tb fun H103 n3=>⟨true,rfl,?_⟩
   rw [if_neg (by decide)];have ha_a:=ha_a.nx n3;have ha_b:=ha_b.nx n3;have ha_c:=ha_c.nx n3;have g1:=n3.at g1;have g2:=n3.at g2;refine jn ha_a ha_b n3.tb fun m4 H104 n4 h_4=>?_
   have ha_a:=ha_a.nx n4;have ha_b:=ha_b.nx n4;have ha_c:=ha_c.nx n4;have g1:=n4.at g1;have g2:=n4.at g2;refine jn ha_b ha_a n4.tb fun m5 H105 n5 h_5=>?_
   have ha_a:=ha_a.nx n5;have ha_b:=ha_b.nx n5;have ha_c:=ha_c.nx n5;have h_4:=h_4.nx n5;have g1:=n5.at g1;have g2:=n5.at g2;refine al h_4 h_5 (fun x=>by cases decide (x∈os1)<;>cases decide (x∈os2)<;>cases pd x<;>rfl) n5.tb fun H106 n6=>⟨true,rfl,?_⟩
   rw [if_neg (by decide)];have ha_a:=ha_a.nx n6;have ha_b:=ha_b.nx n6;have ha_c:=ha_c.nx n6;have g1:=n6.at g1;have g2:=n6.at g2;exact ⟨rfl,g1,g2,ha_a,ha_b,ha_c,n6.tb⟩
 clear ha_a ha_b ha_c g1 g2 tb;rintro σ H0y ⟨rfl,g1,g2,ha_a,ha_b,ha_c,tb⟩;refine ⟨L36 c CM ts sc o1 o2 a b d by_ os1 os2 pd,?_,?_⟩
 · walk_at "vc"
   refine jn ha_a ha_b tb fun m1 H111 n1 h_1=>?_
   have ha_a:=ha_a.nx n1;have ha_b:=ha_b.nx n1;have ha_c:=ha_c.nx n1;have g1:=n1.at g1;have g2:=n1.at g2;refine jn ha_a ha_b n1.tb fun m2 H112 n2 h_2=>?_
   have ha_a:=ha_a.nx n2;have ha_b:=ha_b.nx n2;have ha_c:=ha_c.nx n2;have h_1:=h_1.nx n2;have g1:=n2.at g1;have g2:=n2.at g2;refine jn h_1 h_2 n2.tb fun m3 H113 n3 h_3=>?_
   have ha_a:=ha_a.nx n3;have ha_b:=ha_b.nx n3;have ha_c:=ha_c.nx n3;have h_1:=h_1.nx n3;have h_2:=h_2.nx n3;have g1:=n3.at g1;have g2:=n3.at g2;refine al h_3 ha_a (fun x=>by cases decide (x∈os1)<;>cases decide (x∈os2)<;>cases pd x<;>rfl) n3.tb fun H114 n4=>⟨true,rfl,?_⟩
   rw [if_neg (by decide)];have ha_a:=ha_a.nx n4;have ha_b:=ha_b.nx n4;have ha_c:=ha_c.nx n4;have g1:=n4.at g1;have g2:=n4.at g2;refine jn ha_a ha_b n4.tb fun m5 H115 n5 h_5=>?_
   have ha_a:=ha_a.nx n5;have ha_b:=ha_b.nx n5;have ha_c:=ha_c.nx n5;have g1:=n5.at g1;have g2:=n5.at g2;refine jn ha_b ha_a n5.tb fun m6 H116 n6 h_6=>?_
   have ha_a:=ha_a.nx n6;have ha_b:=ha_b.nx n6;have ha_c:=ha_c.nx n6;have h_5:=h_5.nx n6;have g1:=n6.at g1;have g2:=n6.at g2;refine al h_5 h_6 (fun x=>by cases decide (x∈os1)<;>cases decide (x∈os2)<;>cases pd x<;>rfl) n6.tb fun H117 n7=>⟨true,rfl,?_⟩
   rw [if_neg (by decide)];have ha_a:=ha_a.nx n7;have ha_b:=ha_b.nx n7;have ha_c:=ha_c.nx n7;have g1:=n7.at g1;have g2:=n7.at g2;exact ⟨rfl,g1,g2,ha_a,ha_b,ha_c,n7.tb⟩
 clear ha_a ha_b ha_c g1 g2 tb;rintro σ H1y ⟨rfl,g1,g2,ha_a,ha_b,ha_c,tb⟩;refine ⟨L36 c CM ts sc o1 o2 a b d by_ os1 os2 pd,?_,?_⟩
 · walk_at "vc"
   refine jn ha_a ha_b tb fun m1 H121 n1 h_1=>?_
   have ha_a:=ha_a.nx n1;have ha_b:=ha_b.nx n1;have ha_c:=ha_c.nx n1;have g1:=n1.at g1;have g2:=n1.at g2;refine jn ha_b ha_a n1.tb fun m2 H122 n2 h_2=>?_
   have ha_a:=ha_a.nx n2;have ha_b:=ha_b.nx n2;have ha_c:=ha_c.nx n2;have h_1:=h_1.nx n2;have g1:=n2.at g1;have g2:=n2.at g2;refine al h_1 h_2 (fun x=>by cases decide (x∈os1)<;>cases decide (x∈os2)<;>cases pd x<;>rfl) n2.tb fun H123 n3=>⟨true,rfl,?_⟩
   rw [if_neg (by decide)];have ha_a:=ha_a.nx n3;have ha_b:=ha_b.nx n3;have ha_c:=ha_c.nx n3;have g1:=n3.at g1;have g2:=n3.at g2;refine jn ha_a ha_b n3.tb fun m4 H124 n4 h_4=>?_
   have ha_a:=ha_a.nx n4;have ha_b:=ha_b.nx n4;have ha_c:=ha_c.nx n4;have g1:=n4.at g1;have g2:=n4.at g2;refine jn ha_a h_4 n4.tb fun m5 H125 n5 h_5=>?_
   have ha_a:=ha_a.nx n5;have ha_b:=ha_b.nx n5;have ha_c:=ha_c.nx n5;have h_4:=h_4.nx n5;have g1:=n5.at g1;have g2:=n5.at g2;refine jn ha_a ha_b n5.tb fun m6 H126 n6 h_6=>?_
   have ha_a:=ha_a.nx n6;have ha_b:=ha_b.nx n6;have ha_c:=ha_c.nx n6;have h_4:=h_4.nx n6;have h_5:=h_5.nx n6;have g1:=n6.at g1;have g2:=n6.at g2;refine al h_5 h_6 (fun x=>by cases decide (x∈os1)<;>cases decide (x∈os2)<;>cases pd x<;>rfl) n6.tb fun H127 n7=>⟨true,rfl,?_⟩
   rw [if_neg (by decide)];have ha_a:=ha_a.nx n7;have ha_b:=ha_b.nx n7;have ha_c:=ha_c.nx n7;have g1:=n7.at g1;have g2:=n7.at g2;exact ⟨rfl,g1,g2,ha_a,ha_b,ha_c,n7.tb⟩
 clear ha_a ha_b ha_c g1 g2 tb;rintro σ H2y ⟨rfl,g1,g2,ha_a,ha_b,ha_c,tb⟩;refine ⟨L36 c CM ts sc o1 o2 a b d by_ os1 os2 pd,?_,?_⟩
 · walk_at "vc"
   refine jn ha_a ha_a tb fun m1 H131 n1 h_1=>?_
   have ha_a:=ha_a.nx n1;have ha_b:=ha_b.nx n1;have ha_c:=ha_c.nx n1;have g1:=n1.at g1;have g2:=n1.at g2;refine al h_1 ha_a (fun x=>by cases decide (x∈os1)<;>cases decide (x∈os2)<;>cases pd x<;>rfl) n1.tb fun H132 n2=>⟨true,rfl,?_⟩
   rw [if_neg (by decide)];have ha_a:=ha_a.nx n2;have ha_b:=ha_b.nx n2;have ha_c:=ha_c.nx n2;have g1:=n2.at g1;have g2:=n2.at g2;refine jn ha_a ha_a n2.tb fun m3 H133 n3 h_3=>?_
   have ha_a:=ha_a.nx n3;have ha_b:=ha_b.nx n3;have ha_c:=ha_c.nx n3;have g1:=n3.at g1;have g2:=n3.at g2;refine al h_3 ha_a (fun x=>by cases decide (x∈os1)<;>cases decide (x∈os2)<;>cases pd x<;>rfl) n3.tb fun H134 n4=>⟨true,rfl,?_⟩
   rw [if_neg (by decide)];have ha_a:=ha_a.nx n4;have ha_b:=ha_b.nx n4;have ha_c:=ha_c.nx n4;have g1:=n4.at g1;have g2:=n4.at g2;refine jn ha_a ha_a n4.tb fun m5 H135 n5 h_5=>?_
   have ha_a:=ha_a.nx n5;have ha_b:=ha_b.nx n5;have ha_c:=ha_c.nx n5;have g1:=n5.at g1;have g2:=n5.at g2;have hz:=Zg2 h_5 fun x=>by cases decide (x∈os1)<;>rfl
   obtain ⟨dx,kd,ah,sr,h1,_⟩:=hz.ex;refine ⟨_,rfl,_,_,_,(Zah h1).1,rfl,_,_,h_told,m5,[],rfl,hz,ZeY,fun l us H' s hl rows=>⟨Nat.zero_le _,fun p fp=>?_⟩⟩;cases rows;have nxz:=(n5.tb.nx s).trans (Nx.new (o':=.lst []) (n5.tb.nx s).tb fp);refine Zkl (ps:=[]) (qs:=[]) (SqL.of (Same.new fp _ _ hl)) (SqL.of Zac) ⟨_,rfl,?_⟩;rw [decide_eq_true rfl,if_neg (by decide)];exact ⟨rfl,nxz.at g1,nxz.at g2,ha_a.nx nxz,ha_b.nx nxz,ha_c.nx nxz,nxz.tb⟩
 clear ha_a ha_b ha_c g1 g2 tb;rintro σ H3y ⟨rfl,g1,g2,ha_a,ha_b,ha_c,tb⟩;refine ⟨L36 c CM ts sc o1 o2 a b d by_ os1 os2 pd,?_,?_⟩
 · walk_at "vc"
   refine jn ha_a ha_b tb fun m1 H1j n1 h_1=>?_
   have ha_a:=ha_a.nx n1;have ha_b:=ha_b.nx n1;have ha_c:=ha_c.nx n1;have g1:=n1.at g1;have g2:=n1.at g2;obtain ⟨esJ,hJ,okJ,eJ⟩:=h_1;obtain ⟨esA,hAm,okA,fA⟩:=ha_a.flat u1;obtain ⟨esB,hBm,okB,fB⟩:=ha_b.flat u2;obtain ⟨dx,kd,ah,sr,h1,_⟩:=hJ.ex;have cj:=cnt_join u1 u2 okJ.flat_up fun x=>(eJ x).trans (by rw [Bool.or_eq_true,decide_eq_true_eq,decide_eq_true_eq])
   rw [Zbw] at cj;refine ⟨_,rfl,_,_,_,(Zah h1).1,rfl,_,_,h_many,m1,esJ,rfl,hJ,?_⟩;refine ⟨a,b,esA,esB,rfl,hAm,hBm,okA,okB,n1.tb,fun H2j n2=>⟨_,rfl,_,rfl,_,.inl (SqL.of (Zah (n2.at g1)).1),_,.inl (SqL.of (Zah (n2.at g2)).1),?_⟩⟩;have cn:comN esA esB=(os1.filter fun x=>decide (x∈os2)).length:=by unfold comN;rw [fA,fB]
   rw [cn,Zal,Zal,if_pos (by omega)];refine ⟨a,b,d,_,_,_,rfl,ha_a.nx n2,ha_b.nx n2,ha_c.nx n2,n2.tb,fun H3j n3=>⟨true,rfl,?_⟩⟩;rw [if_neg (by decide)];have nn:=n2.trans n3;exact ⟨rfl,nn.at g1,nn.at g2,ha_a.nx nn,ha_b.nx nn,ha_c.nx nn,nn.tb⟩
 clear ha_a ha_b ha_c g1 g2 tb;rintro σ H8y ⟨rfl,g1,g2,ha_a,ha_b,ha_c,tb⟩;refine ⟨L36 c CM ts sc o1 o2 a b d by_ os1 os2 pd,?_,?_⟩
 · walk_at "vc"
   refine jn ha_a ha_b tb fun m1 H1j n1 h_1=>?_
   have ha_a:=ha_a.nx n1;have ha_b:=ha_b.nx n1;have ha_c:=ha_c.nx n1;have g1:=n1.at g1;have g2:=n1.at g2;obtain ⟨esC,hC,okC,eC⟩:=h_1;obtain ⟨esA,hAm,okA,fA⟩:=ha_a.flat u1;have c1:comN esC esA=tot esC:=by unfold comN;rw [← Zbw,List.filter_eq_self.mpr fun x hx=>decide_eq_true ?_];have:=(eC x).mp hx;rw [Bool.and_eq_true,decide_eq_true_eq] at this;rw [fA];exact this.1
   refine ⟨m1,a,esC,esA,by rw [decide_eq_true c1],hC,hAm,okC,okA,n1.tb,fun H2j n2=>⟨true,rfl,?_⟩⟩;rw [if_neg (by decide)];have ha_a:=ha_a.nx n2;have ha_b:=ha_b.nx n2;have ha_c:=ha_c.nx n2;have g1:=n2.at g1;have g2:=n2.at g2;refine jn ha_a ha_b n2.tb fun m3 H3j n3 h_3=>?_
   have ha_a:=ha_a.nx n3;have ha_b:=ha_b.nx n3;have ha_c:=ha_c.nx n3;have g1:=n3.at g1;have g2:=n3.at g2;obtain ⟨esJ,hJ,okJ,eJ⟩:=h_3;obtain ⟨esD,hDm,okD,fD⟩:=ha_a.flat u1;have c2:comN esD esJ=tot esD:=by unfold comN;rw [← Zbw,List.filter_eq_self.mpr fun x hx=>decide_eq_true ?_];refine (eJ x).mpr ?_;rw [fD] at hx;rw [Bool.or_eq_true,decide_eq_true_eq];exact .inl hx
   refine ⟨a,m3,esD,esJ,by rw [decide_eq_true c2],hDm,hJ,okD,okJ,n3.tb,fun H4j n4=>⟨true,rfl,?_⟩⟩;rw [if_neg (by decide)];exact ⟨rfl,n4.at g1,n4.at g2,ha_a.nx n4,ha_b.nx n4,ha_c.nx n4,n4.tb⟩
 clear ha_a ha_b ha_c g1 g2 tb;rintro σ H9y ⟨rfl,g1,g2,ha_a,ha_b,ha_c,tb⟩;walk_at "vc";refine jn ha_a ha_b tb fun m1 H1j n1 h_1=>?_
 have ha_a:=ha_a.nx n1;have ha_b:=ha_b.nx n1;have ha_c:=ha_c.nx n1;have g1:=n1.at g1;have g2:=n1.at g2;obtain ⟨esC,hC,okC,eC⟩:=h_1;obtain ⟨esA,hAm,okA,fA⟩:=ha_a.flat u1;obtain ⟨esB,hBm,okB,fB⟩:=ha_b.flat u2;obtain ⟨dx,kd,ah,sr,h1,_⟩:=hC.ex;have cc:comN esA esB=tot esC:=by unfold comN;rw [← Zbw];refine congrArg List.length (Up.ext okA.flat_up.filter okC.flat_up fun x=>?_);rw [List.mem_filter,decide_eq_true_eq,fA,fB];exact (Iff.symm ((eC x).trans (by rw [Bool.and_eq_true,decide_eq_true_eq,decide_eq_true_eq])))
 have ta:tot esA=os1.length:=by rw [← Zbw,fA]
 refine ⟨_,rfl,_,_,_,(Zah h1).1,rfl,_,_,h_many,m1,esC,rfl,hC,_,.inl (SqL.of (Zah g1).1),rfl,?_⟩;refine ⟨a,b,esA,esB,?_,hAm,hBm,okA,okB,n1.tb,fun H2j n2=>⟨true,rfl,?_⟩⟩
 · have e:decide (V.int (tot esC:Nat)=V.int ((pint os1).length:Nat))=decide (comN esA esB=tot esA):=by
     rw [Zal,cc,ta];exact decide_eq_decide.mpr ⟨fun h=>by have:=V.int.inj h;omega,fun h=>by rw [h]⟩
   rw [e]
 rw [if_pos rfl];have ha_a:=ha_a.nx n2;have ha_b:=ha_b.nx n2;have ha_c:=ha_c.nx n2;have g1:=n2.at g1;have g2:=n2.at g2;refine jn ha_a ha_a n2.tb fun m3 H3j n3 h_3=>?_
 have hz:=Zg2 h_3 fun x=>by cases decide (x∈os1)<;>rfl
 obtain ⟨dx',kd',ah',sr',h1',_⟩:=hz.ex;refine ⟨_,rfl,_,_,_,(Zah h1').1,rfl,_,_,h_told,m3,[],rfl,hz,ZeY,fun l us H' s hl rows=>⟨Nat.zero_le _,fun p fp=>?_⟩⟩;cases rows;refine Zkz (ps:=[]) (qs:=[]) (SqL.of (Same.new fp _ _ hl)) (SqL.of Zac) ?_;rw [decide_eq_true rfl];exact q _
end
def lamDefs:List Str:=["halved_keys"]
def tsK (K:PySem.W.Frag):Tabs:=[((tabAt K "halved_keys").2,qK,lpK)]
theorem uqK (K:PySem.W.Frag):TabsUq (tsK K):=fun t ht u hu _=>(List.mem_singleton.mp ht).trans (List.mem_singleton.mp hu).symm
def spLawK (K:PySem.W.Frag):Sp:=spLaw36 K (tsK K)
theorem sql_noT {K:PySem.W.Frag}{H:Hp}{a:Addr}{xs:List V}(h:SqL K H a xs):SqL K (noT H) a xs:=by
 rcases h with h | h
 · rcases h with h | ⟨o,h⟩
   · exact .inl (.inl (Zaq h (nl _)))
   · exact .inl (.inr ⟨o,Zaq h fun _ z=>by cases z⟩)
 · exact .inr h
theorem ZjZ {K:Params→PySem.W.Frag}(w:World)(H:Hp)(a:Addr)(ns:List Int)(h1:ns.length≤63)(h2:∀ z∈ns,Builtin.Int.intBits z≤2^20)(h3:∀ y∈lamDefs,H (tabAt (K w.params) y).2=some (.tbl #[]))(h4:(lamDefs.map fun x=>(tabAt (K w.params) x).2).Nodup)(h5:SqL (K w.params) H a (ns.map V.int)):spLawK (K w.params) [.ref a] H (fun v _=>v=.bl true) fun _ _ _=>False:=by refine ⟨a,ns,rfl,sql_noT h5,h1,fun t ht=>?_,fun _=>rfl⟩;rw [List.mem_singleton.mp ht];exact .inl (h3 _ (.head _))
theorem law_mk {K:PySem.W.Frag}{h:Heap}{mg:Str→Option Value}{fa f:Addr}{oc:Value}{od an:Option Addr}{osl:Array (Option Value)}{kV doc pm cdv ct:Value}(X:K.In h)(G:h.Ns mainGlobals mg)(hfa:mg "law"=some (.ref fa))(a:PySem.W.nsIn K mainGlobals "law"=some (some (.ref f)))
   (l:K.lookup f=some ⟨oc,od,.func (PySem.W.fnOf "law" "law" (defArgs Zey) (defBody Zey) (defScope Zey) .none kV doc pm an cdv ct),osl⟩) (c:PySem.W.codeIn K cdv "law"=true) (k:PySem.W.keepIn K (.ref f)=true) :
   ∃ fd,Fun K "law" "law" Zey fa fd∧∀ (s:Shared) (v:Value),BindsTo s fd ⟨[v],[]⟩ [("_law_script",v)]:=by
 have e:=hfa.symm.trans (PySem.W.mg_of X G a);cases e;exact ⟨_,ZcU l c k,fun s v=>.of_eq rfl⟩
theorem walkT {l:PySem.W.OpenLaw}{q:Program}{loose:List Str}{XP:(Str→Option Value)→Heap→Prop}{YP:World→Heap→Prop}{d:DefRec}{K:Params→PySem.W.Frag}(hn:l.most=some 63)(hdf:d.params.defaults=[])
   (hY:∀ (w:World) (h:Heap),YP w h→(K w.params).In h) (ok:∀ P,tabsOk (K P) lamDefs=true) (rok:recsOk q lamDefs=true)
   (F:∀ (w:World) (mg:Str→Option Value) (fa:Addr) (h:Heap),(K w.params).In h→h.Ns mainGlobals mg→mg d.name=some (.ref fa)→(∀ y∈lamDefs,PySem.W.tabIn (K w.params) y=some (tabAt (K w.params) y)) →
     ∃ fd:FuncData,(∀ (s:Shared) (u:Value),BindsTo s fd ⟨[u],[]⟩ [("_law_script",u)])∧∀ base:Heap,(K w.params).In base→base.Ns mainGlobals mg→(∀ y∈lamDefs,TabIn base mg (tabAt (K w.params) y))→FnOk l.prog w (K w.params) mg base CX0 40 fa fd ["_law_script"] (spLawK (K w.params))) :
   PySem.W.WalkO q loose XP YP l.row.toRowW d [] (fun f vs=>PySem.call f vs) :=
 L2.walk_tabs (n:=63) (k:=40) (x:="_law_script") (sp:=fun w=>spLawK (K w.params)) lamDefs hn (by decide) hdf ⟨rfl,by decide,by decide⟩ hY ok rok (fun w mg fa h KX G m=>F w mg fa h KX G m fun y hy=>(ZdB (ok _) hy).1) ZjZ
end My
theorem PySem.W.Fast.te1754438331213653606:True:=trivial
def PySem.W.Fast.tw1754438331213653606:Unit:=()
theorem PySem.W.Fast.te191569200553898590:True:=trivial
def PySem.W.Fast.tw191569200553898590:Unit:=()
theorem PySem.W.Fast.te8402845569256314470:True:=trivial
def PySem.W.Fast.tw8402845569256314470:Unit:=()
theorem PySem.W.Fast.te8403559534865787773:True:=trivial
def PySem.W.Fast.tw8403559534865787773:Unit:=()
theorem PySem.W.Fast.te13052408679150730464:True:=trivial
def PySem.W.Fast.tw13052408679150730464:Unit:=()
theorem PySem.W.Fast.te16555476440528808052:True:=trivial
def PySem.W.Fast.tw16555476440528808052:Unit:=()
theorem PySem.W.Fast.te4868988410673395695:True:=trivial
def PySem.W.Fast.tw4868988410673395695:Unit:=()
open PySem PySem.W PyProof.Rows My L2
set_option maxRecDepth 100000 in
set_option maxHeartbeats 0 in
theorem PySem.Challenge.cw_runmarks_k36_whole_joins_undone_holds : PySem.Challenge.rw_runmarks_k36_whole_joins_undone.Holds := by
 w_on;o_law;k_head;(case hw=>w_witness2)
 k_fill
 refine My.walkT (l:=PySem.Challenge.rw_runmarks_k36_whole_joins_undone) rfl rfl (fun w h Y=>PySem.W.km_in_of Y) (fun P=>by kernel_rfl) (by kernel_rfl) ?F
 case F =>
   intro w mg fa h KX G hmg hTI;have D_is_whole:DefAt (L2.KOf KX) mg "is_whole" Zc2 ["thing"]:=by
     dsimp only [L2.KOf];refine' Zap KX G ?a7 ?l7 ?c7 ?k7 ?b7
     (case a7=>k_is);(case l7=>k_is);(case c7=>k_is);(case k7=>k_is)
     exact fun _ _ _ _ _ _=>all1 fun _=>rfl
   have D_all_below:DefAt (L2.KOf KX) mg "all_below" Zcr ["place"]:=by
     dsimp only [L2.KOf];refine' Zap KX G ?a8 ?l8 ?c8 ?k8 ?b8
     (case a8=>k_is);(case l8=>k_is);(case c8=>k_is);(case k8=>k_is)
     exact fun _ _ _ _ _ _=>all1 fun _=>rfl
   have D_without_first:DefAt (L2.KOf KX) mg "without_first" Zbx ["word"]:=by
     dsimp only [L2.KOf];refine' Zap KX G ?a9 ?l9 ?c9 ?k9 ?b9
     (case a9=>k_is);(case l9=>k_is);(case c9=>k_is);(case k9=>k_is)
     exact fun _ _ _ _ _ _=>all1 fun _=>rfl
   have D_counted:DefAt (L2.KOf KX) mg "counted" ZdN ["word"]:=by
     dsimp only [L2.KOf];refine' Zap KX G ?a10 ?l10 ?c10 ?k10 ?b10
     (case a10=>k_is);(case l10=>k_is);(case c10=>k_is);(case k10=>k_is)
     exact fun _ _ _ _ _ _=>all1 fun _=>rfl
   have D_first_one:DefAt (L2.KOf KX) mg "first_one" Zcy ["word"]:=by
     dsimp only [L2.KOf];refine' Zap KX G ?a11 ?l11 ?c11 ?k11 ?b11
     (case a11=>k_is);(case l11=>k_is);(case c11=>k_is);(case k11=>k_is)
     exact fun _ _ _ _ _ _=>all1 fun _=>rfl
   have D_last_one:DefAt (L2.KOf KX) mg "last_one" ZcX ["word"]:=by
     dsimp only [L2.KOf];refine' Zap KX G ?a12 ?l12 ?c12 ?k12 ?b12
     (case a12=>k_is);(case l12=>k_is);(case c12=>k_is);(case k12=>k_is)
     exact fun _ _ _ _ _ _=>all1 fun _=>rfl
   have D_span_word:DefAt (L2.KOf KX) mg "span_word" Zcp ["first","last"]:=by
     dsimp only [L2.KOf];refine' Zap KX G ?a13 ?l13 ?c13 ?k13 ?b13
     (case a13=>k_is);(case l13=>k_is);(case c13=>k_is);(case k13=>k_is)
     exact fun _ _ _ _ _ _=>all2 fun _ _=>rfl
   have D_word_of:DefAt (L2.KOf KX) mg "word_of" ZdR ["places"]:=by
     dsimp only [L2.KOf];refine' Zap KX G ?a14 ?l14 ?c14 ?k14 ?b14
     (case a14=>k_is);(case l14=>k_is);(case c14=>k_is);(case k14=>k_is)
     exact fun _ _ _ _ _ _=>all1 fun _=>rfl
   have D_places_of:DefAt (L2.KOf KX) mg "places_of" Zco ["word"]:=by
     dsimp only [L2.KOf];refine' Zap KX G ?a15 ?l15 ?c15 ?k15 ?b15
     (case a15=>k_is);(case l15=>k_is);(case c15=>k_is);(case k15=>k_is)
     exact fun _ _ _ _ _ _=>all1 fun _=>rfl
   have D_runs_of:DefAt (L2.KOf KX) mg "runs_of" ZdM ["word"]:=by
     dsimp only [L2.KOf];refine' Zap KX G ?a16 ?l16 ?c16 ?k16 ?b16
     (case a16=>k_is);(case l16=>k_is);(case c16=>k_is);(case k16=>k_is)
     exact fun _ _ _ _ _ _=>all1 fun _=>rfl
   have D_word_of_runs:DefAt (L2.KOf KX) mg "word_of_runs" ZbK ["runs"]:=by
     dsimp only [L2.KOf];refine' Zap KX G ?a17 ?l17 ?c17 ?k17 ?b17
     (case a17=>k_is);(case l17=>k_is);(case c17=>k_is);(case k17=>k_is)
     exact fun _ _ _ _ _ _=>all1 fun _=>rfl
   have D_sizes:DefAt (L2.KOf KX) mg "sizes" Zgc ["word"]:=by
     dsimp only [L2.KOf];refine' Zap KX G ?a24 ?l24 ?c24 ?k24 ?b24
     (case a24=>k_is);(case l24=>k_is);(case c24=>k_is);(case k24=>k_is)
     exact fun _ _ _ _ _ _=>all1 fun _=>rfl
   have D_kept:DefAt (L2.KOf KX) mg "kept" Zh6 ["word"]:=by
     dsimp only [L2.KOf];refine' Zap KX G ?a25 ?l25 ?c25 ?k25 ?b25
     (case a25=>k_is);(case l25=>k_is);(case c25=>k_is);(case k25=>k_is)
     exact fun _ _ _ _ _ _=>all1 fun _=>rfl
   have D_halved:DefAt (L2.KOf KX) mg "halved" ZeI ["many","goes_on"]:=by
     dsimp only [L2.KOf];refine' Zap KX G ?a27 ?l27 ?c27 ?k27 ?b27
     (case a27=>k_is);(case l27=>k_is);(case c27=>k_is);(case k27=>k_is)
     exact fun _ _ _ _ _ _=>all2 fun _ _=>rfl
   have D_halved_keys:DefAt (L2.KOf KX) mg "halved_keys" Zbp ["keys","key"]:=by
     dsimp only [L2.KOf];refine' Zap KX G ?a28 ?l28 ?c28 ?k28 ?b28
     (case a28=>k_is);(case l28=>k_is);(case c28=>k_is);(case k28=>k_is)
     exact fun _ _ _ _ _ _=>all2 fun _ _=>rfl
   have D_check_number:DefAt (L2.KOf KX) mg "check_number" ZbH ["thing"]:=by
     dsimp only [L2.KOf];refine' Zap KX G ?a34 ?l34 ?c34 ?k34 ?b34
     (case a34=>k_is);(case l34=>k_is);(case c34=>k_is);(case k34=>k_is)
     exact fun _ _ _ _ _ _=>all1 fun _=>rfl
   have D_marks_of:DefAt (L2.KOf KX) mg "marks_of" ZcL ["numbers"]:=by
     dsimp only [L2.KOf];refine' Zap KX G ?a36 ?l36 ?c36 ?k36 ?b36
     (case a36=>k_is);(case l36=>k_is);(case c36=>k_is);(case k36=>k_is)
     exact fun _ _ _ _ _ _=>all1 fun _=>rfl
   have D_of_words:DefAt (L2.KOf KX) mg "of_words" Zc0 ["words"]:=by
     dsimp only [L2.KOf];refine' Zap KX G ?a37 ?l37 ?c37 ?k37 ?b37
     (case a37=>k_is);(case l37=>k_is);(case c37=>k_is);(case k37=>k_is)
     exact fun _ _ _ _ _ _=>all1 fun _=>rfl
   have D_gathered:DefAt (L2.KOf KX) mg "gathered" ZcV ["pairs"]:=by
     dsimp only [L2.KOf];refine' Zap KX G ?a38 ?l38 ?c38 ?k38 ?b38
     (case a38=>k_is);(case l38=>k_is);(case c38=>k_is);(case k38=>k_is)
     exact fun _ _ _ _ _ _=>all1 fun _=>rfl
   have D_keys_of_both:DefAt (L2.KOf KX) mg "keys_of_both" ZbE ["one","other"]:=by
     dsimp only [L2.KOf];refine' Zap KX G ?a40 ?l40 ?c40 ?k40 ?b40
     (case a40=>k_is);(case l40=>k_is);(case c40=>k_is);(case k40=>k_is)
     exact fun _ _ _ _ _ _=>all2 fun _ _=>rfl
   have D_common:DefAt (L2.KOf KX) mg "common" ZeJ ["one","other"]:=by
     dsimp only [L2.KOf];refine' Zap KX G ?a41 ?l41 ?c41 ?k41 ?b41
     (case a41=>k_is);(case l41=>k_is);(case c41=>k_is);(case k41=>k_is)
     exact fun _ _ _ _ _ _=>all2 fun _ _=>rfl
   have D_joined:DefAt (L2.KOf KX) mg "joined" ZeT ["one","other"]:=by
     dsimp only [L2.KOf];refine' Zap KX G ?a42 ?l42 ?c42 ?k42 ?b42
     (case a42=>k_is);(case l42=>k_is);(case c42=>k_is);(case k42=>k_is)
     exact fun _ _ _ _ _ _=>all2 fun _ _=>rfl
   have D_less:DefAt (L2.KOf KX) mg "less" ZhZ ["one","other"]:=by
     dsimp only [L2.KOf];refine' Zap KX G ?a43 ?l43 ?c43 ?k43 ?b43
     (case a43=>k_is);(case l43=>k_is);(case c43=>k_is);(case k43=>k_is)
     exact fun _ _ _ _ _ _=>all2 fun _ _=>rfl
   have D_either:DefAt (L2.KOf KX) mg "either" Zez ["one","other"]:=by
     dsimp only [L2.KOf];refine' Zap KX G ?a44 ?l44 ?c44 ?k44 ?b44
     (case a44=>k_is);(case l44=>k_is);(case c44=>k_is);(case k44=>k_is)
     exact fun _ _ _ _ _ _=>all2 fun _ _=>rfl
   have D_shared:DefAt (L2.KOf KX) mg "shared" ZeO ["one","other"]:=by
     dsimp only [L2.KOf];refine' Zap KX G ?a45 ?l45 ?c45 ?k45 ?b45
     (case a45=>k_is);(case l45=>k_is);(case c45=>k_is);(case k45=>k_is)
     exact fun _ _ _ _ _ _=>all2 fun _ _=>rfl
   have D_lies_in:DefAt (L2.KOf KX) mg "lies_in" ZdS ["one","other"]:=by
     dsimp only [L2.KOf];refine' Zap KX G ?a46 ?l46 ?c46 ?k46 ?b46
     (case a46=>k_is);(case l46=>k_is);(case c46=>k_is);(case k46=>k_is)
     exact fun _ _ _ _ _ _=>all2 fun _ _=>rfl
   have D_l_cell_at:DefAt (L2.KOf KX) mg "_law_cell_at" Zcz ["_law_script","_law_k"]:=by
     dsimp only [L2.KOf];refine' Zap KX G ?a48 ?l48 ?c48 ?k48 ?b48
     (case a48=>k_is);(case l48=>k_is);(case c48=>k_is);(case k48=>k_is)
     exact fun _ _ _ _ _ _=>all2 fun _ _=>rfl
   have D_l_mixed:DefAt (L2.KOf KX) mg "_law_mixed" ZdC ["_law_cell","_law_k"]:=by
     dsimp only [L2.KOf];refine' Zap KX G ?a49 ?l49 ?c49 ?k49 ?b49
     (case a49=>k_is);(case l49=>k_is);(case c49=>k_is);(case k49=>k_is)
     exact fun _ _ _ _ _ _=>all2 fun _ _=>rfl
   have D_l_piece:DefAt (L2.KOf KX) mg "_law_piece" ZdH ["_law_number","_law_home"]:=by
     dsimp only [L2.KOf];refine' Zap KX G ?a50 ?l50 ?c50 ?k50 ?b50
     (case a50=>k_is);(case l50=>k_is);(case c50=>k_is);(case k50=>k_is)
     exact fun _ _ _ _ _ _=>all2 fun _ _=>rfl
   have D_l_sets:DefAt (L2.KOf KX) mg "_law_sets" ZeX ["_law_script"]:=by
     dsimp only [L2.KOf];refine' Zap KX G ?a51 ?l51 ?c51 ?k51 ?b51
     (case a51=>k_is);(case l51=>k_is);(case c51=>k_is);(case k51=>k_is)
     exact fun _ _ _ _ _ _=>all1 fun _=>rfl
   have D_l_alike:DefAt (L2.KOf KX) mg "_law_alike" Zdy ["_law_one","_law_other"]:=by
     dsimp only [L2.KOf];refine' Zap KX G ?a52 ?l52 ?c52 ?k52 ?b52
     (case a52=>k_is);(case l52=>k_is);(case c52=>k_is);(case k52=>k_is)
     exact fun _ _ _ _ _ _=>all2 fun _ _=>rfl
   have D_l_three:DefAt (L2.KOf KX) mg "_law_three" ZdD ["_law_a","_law_b","_law_c"]:=by
     dsimp only [L2.KOf];refine' Zap KX G ?a53 ?l53 ?c53 ?k53 ?b53
     (case a53=>k_is);(case l53=>k_is);(case c53=>k_is);(case k53=>k_is)
     exact fun _ _ _ _ _ _=>all3 fun _ _ _=>rfl
   have D_l_within:DefAt (L2.KOf KX) mg "_law_within" ZcM ["_law_one","_law_other","_law_due"]:=by
     dsimp only [L2.KOf];refine' Zap KX G ?a54 ?l54 ?c54 ?k54 ?b54
     (case a54=>k_is);(case l54=>k_is);(case c54=>k_is);(case k54=>k_is)
     exact fun _ _ _ _ _ _=>all3 fun _ _ _=>rfl
   have e_ListStretch:∃ C,CD_ListStretch (L2.KOf KX) mg C:=by
     have z:∃ C,mg "ListStretch"=some (.ref C)∧(Cls (L2.KOf KX) C)∧(MakerAt (L2.KOf KX) C "ListStretch.__init__" ZaL ["self","places"])∧(MDefAt (L2.KOf KX) C "kind" "ListStretch.kind" Za3 ["self"])∧(MDefAt (L2.KOf KX) C "body" "ListStretch.body" Za2 ["self"])∧(MDefAt (L2.KOf KX) C "word" "ListStretch.word" Za0 ["self"])∧(MDefAt (L2.KOf KX) C "told" "Stretch.told" ZaJ ["self"])∧(MDefAt (L2.KOf KX) C "many" "Stretch.many" ZaB ["self"])∧(NoAttr (L2.KOf KX) C "places"):=by
       dsimp only [L2.KOf];refine' Zf5 KX G ?aListStretch ?rListStretch
       (case aListStretch=>k_is)
       refine' ⟨?_,?_,?_,?_,?_,?_,?_,?_⟩
       · refine' ⟨?yListStretch_0_0,?yListStretch_0_1,?yListStretch_0_2,?yListStretch_0_3⟩
         (case yListStretch_0_0=>k_is);(case yListStretch_0_1=>k_is);(case yListStretch_0_2=>k_is);(case yListStretch_0_3=>k_is)
       · refine' Zdi ?yListStretch_1_0 ?yListStretch_1_1 ?yListStretch_1_2 ?yListStretch_1_3 ?yListStretch_1_4 ?yListStretch_1_5 ?yListStretch_1_6 ?yListStretch_1_7
         (case yListStretch_1_0=>k_is);(case yListStretch_1_1=>k_is);(case yListStretch_1_2=>k_is);(case yListStretch_1_3=>k_is);(case yListStretch_1_4=>k_is);(case yListStretch_1_5=>k_is);(case yListStretch_1_6=>k_is)
         exact fun _ _ _ _ _ _=>all2 fun _ _=>rfl
       · refine' Zax ?yListStretch_2_0 ?yListStretch_2_1 ?yListStretch_2_2 ?yListStretch_2_3 ?yListStretch_2_4 ?yListStretch_2_5
         (case yListStretch_2_0=>k_is);(case yListStretch_2_1=>k_is);(case yListStretch_2_2=>k_is);(case yListStretch_2_3=>k_is);(case yListStretch_2_4=>k_is)
         exact fun _ _ _ _ _ _=>all1 fun _=>rfl
       · refine' Zax ?yListStretch_3_0 ?yListStretch_3_1 ?yListStretch_3_2 ?yListStretch_3_3 ?yListStretch_3_4 ?yListStretch_3_5
         (case yListStretch_3_0=>k_is);(case yListStretch_3_1=>k_is);(case yListStretch_3_2=>k_is);(case yListStretch_3_3=>k_is);(case yListStretch_3_4=>k_is)
         exact fun _ _ _ _ _ _=>all1 fun _=>rfl
       · refine' Zax ?yListStretch_4_0 ?yListStretch_4_1 ?yListStretch_4_2 ?yListStretch_4_3 ?yListStretch_4_4 ?yListStretch_4_5
         (case yListStretch_4_0=>k_is);(case yListStretch_4_1=>k_is);(case yListStretch_4_2=>k_is);(case yListStretch_4_3=>k_is);(case yListStretch_4_4=>k_is)
         exact fun _ _ _ _ _ _=>all1 fun _=>rfl
       · refine' Zax ?yListStretch_5_0 ?yListStretch_5_1 ?yListStretch_5_2 ?yListStretch_5_3 ?yListStretch_5_4 ?yListStretch_5_5
         (case yListStretch_5_0=>k_is);(case yListStretch_5_1=>k_is);(case yListStretch_5_2=>k_is);(case yListStretch_5_3=>k_is);(case yListStretch_5_4=>k_is)
         exact fun _ _ _ _ _ _=>all1 fun _=>rfl
       · refine' Zax ?yListStretch_6_0 ?yListStretch_6_1 ?yListStretch_6_2 ?yListStretch_6_3 ?yListStretch_6_4 ?yListStretch_6_5
         (case yListStretch_6_0=>k_is);(case yListStretch_6_1=>k_is);(case yListStretch_6_2=>k_is);(case yListStretch_6_3=>k_is);(case yListStretch_6_4=>k_is)
         exact fun _ _ _ _ _ _=>all1 fun _=>rfl
       · show PySem.W.findIn _ _ _=_
         k_is
     obtain ⟨C,a,b0,b1,b2,b3,b4,b5,b6,b7⟩:=z;exact ⟨C,a,b0,b1,b2,b3,b4,b5,b6,b7⟩
   obtain ⟨C_ListStretch,cd_ListStretch⟩:=e_ListStretch;have e_BitStretch:∃ C,CD_BitStretch (L2.KOf KX) mg C:=by
     have z:∃ C,mg "BitStretch"=some (.ref C)∧(Cls (L2.KOf KX) C)∧(MakerAt (L2.KOf KX) C "BitStretch.__init__" ZaN ["self","word"])∧(MDefAt (L2.KOf KX) C "kind" "BitStretch.kind" Zbe ["self"])∧(MDefAt (L2.KOf KX) C "body" "BitStretch.body" Zbh ["self"])∧(MDefAt (L2.KOf KX) C "word" "BitStretch.word" Zbd ["self"])∧(MDefAt (L2.KOf KX) C "told" "Stretch.told" ZaJ ["self"])∧(MDefAt (L2.KOf KX) C "many" "Stretch.many" ZaB ["self"])∧(NoAttr (L2.KOf KX) C "ones"):=by
       dsimp only [L2.KOf];refine' Zf5 KX G ?aBitStretch ?rBitStretch
       (case aBitStretch=>k_is)
       refine' ⟨?_,?_,?_,?_,?_,?_,?_,?_⟩
       · refine' ⟨?yBitStretch_0_0,?yBitStretch_0_1,?yBitStretch_0_2,?yBitStretch_0_3⟩
         (case yBitStretch_0_0=>k_is);(case yBitStretch_0_1=>k_is);(case yBitStretch_0_2=>k_is);(case yBitStretch_0_3=>k_is)
       · refine' Zdi ?yBitStretch_1_0 ?yBitStretch_1_1 ?yBitStretch_1_2 ?yBitStretch_1_3 ?yBitStretch_1_4 ?yBitStretch_1_5 ?yBitStretch_1_6 ?yBitStretch_1_7
         (case yBitStretch_1_0=>k_is);(case yBitStretch_1_1=>k_is);(case yBitStretch_1_2=>k_is);(case yBitStretch_1_3=>k_is);(case yBitStretch_1_4=>k_is);(case yBitStretch_1_5=>k_is);(case yBitStretch_1_6=>k_is)
         exact fun _ _ _ _ _ _=>all2 fun _ _=>rfl
       · refine' Zax ?yBitStretch_2_0 ?yBitStretch_2_1 ?yBitStretch_2_2 ?yBitStretch_2_3 ?yBitStretch_2_4 ?yBitStretch_2_5
         (case yBitStretch_2_0=>k_is);(case yBitStretch_2_1=>k_is);(case yBitStretch_2_2=>k_is);(case yBitStretch_2_3=>k_is);(case yBitStretch_2_4=>k_is)
         exact fun _ _ _ _ _ _=>all1 fun _=>rfl
       · refine' Zax ?yBitStretch_3_0 ?yBitStretch_3_1 ?yBitStretch_3_2 ?yBitStretch_3_3 ?yBitStretch_3_4 ?yBitStretch_3_5
         (case yBitStretch_3_0=>k_is);(case yBitStretch_3_1=>k_is);(case yBitStretch_3_2=>k_is);(case yBitStretch_3_3=>k_is);(case yBitStretch_3_4=>k_is)
         exact fun _ _ _ _ _ _=>all1 fun _=>rfl
       · refine' Zax ?yBitStretch_4_0 ?yBitStretch_4_1 ?yBitStretch_4_2 ?yBitStretch_4_3 ?yBitStretch_4_4 ?yBitStretch_4_5
         (case yBitStretch_4_0=>k_is);(case yBitStretch_4_1=>k_is);(case yBitStretch_4_2=>k_is);(case yBitStretch_4_3=>k_is);(case yBitStretch_4_4=>k_is)
         exact fun _ _ _ _ _ _=>all1 fun _=>rfl
       · refine' Zax ?yBitStretch_5_0 ?yBitStretch_5_1 ?yBitStretch_5_2 ?yBitStretch_5_3 ?yBitStretch_5_4 ?yBitStretch_5_5
         (case yBitStretch_5_0=>k_is);(case yBitStretch_5_1=>k_is);(case yBitStretch_5_2=>k_is);(case yBitStretch_5_3=>k_is);(case yBitStretch_5_4=>k_is)
         exact fun _ _ _ _ _ _=>all1 fun _=>rfl
       · refine' Zax ?yBitStretch_6_0 ?yBitStretch_6_1 ?yBitStretch_6_2 ?yBitStretch_6_3 ?yBitStretch_6_4 ?yBitStretch_6_5
         (case yBitStretch_6_0=>k_is);(case yBitStretch_6_1=>k_is);(case yBitStretch_6_2=>k_is);(case yBitStretch_6_3=>k_is);(case yBitStretch_6_4=>k_is)
         exact fun _ _ _ _ _ _=>all1 fun _=>rfl
       · show PySem.W.findIn _ _ _=_
         k_is
     obtain ⟨C,a,b0,b1,b2,b3,b4,b5,b6,b7⟩:=z;exact ⟨C,a,b0,b1,b2,b3,b4,b5,b6,b7⟩
   obtain ⟨C_BitStretch,cd_BitStretch⟩:=e_BitStretch;have e_RunStretch:∃ C,CD_RunStretch (L2.KOf KX) mg C:=by
     have z:∃ C,mg "RunStretch"=some (.ref C)∧(Cls (L2.KOf KX) C)∧(MakerAt (L2.KOf KX) C "RunStretch.__init__" ZaQ ["self","runs"])∧(MDefAt (L2.KOf KX) C "kind" "RunStretch.kind" Zbj ["self"])∧(MDefAt (L2.KOf KX) C "body" "RunStretch.body" Zbb ["self"])∧(MDefAt (L2.KOf KX) C "word" "RunStretch.word" Zbg ["self"])∧(MDefAt (L2.KOf KX) C "told" "Stretch.told" ZaJ ["self"])∧(MDefAt (L2.KOf KX) C "many" "Stretch.many" ZaB ["self"])∧(NoAttr (L2.KOf KX) C "runs"):=by
       dsimp only [L2.KOf];refine' Zf5 KX G ?aRunStretch ?rRunStretch
       (case aRunStretch=>k_is)
       refine' ⟨?_,?_,?_,?_,?_,?_,?_,?_⟩
       · refine' ⟨?yRunStretch_0_0,?yRunStretch_0_1,?yRunStretch_0_2,?yRunStretch_0_3⟩
         (case yRunStretch_0_0=>k_is);(case yRunStretch_0_1=>k_is);(case yRunStretch_0_2=>k_is);(case yRunStretch_0_3=>k_is)
       · refine' Zdi ?yRunStretch_1_0 ?yRunStretch_1_1 ?yRunStretch_1_2 ?yRunStretch_1_3 ?yRunStretch_1_4 ?yRunStretch_1_5 ?yRunStretch_1_6 ?yRunStretch_1_7
         (case yRunStretch_1_0=>k_is);(case yRunStretch_1_1=>k_is);(case yRunStretch_1_2=>k_is);(case yRunStretch_1_3=>k_is);(case yRunStretch_1_4=>k_is);(case yRunStretch_1_5=>k_is);(case yRunStretch_1_6=>k_is)
         exact fun _ _ _ _ _ _=>all2 fun _ _=>rfl
       · refine' Zax ?yRunStretch_2_0 ?yRunStretch_2_1 ?yRunStretch_2_2 ?yRunStretch_2_3 ?yRunStretch_2_4 ?yRunStretch_2_5
         (case yRunStretch_2_0=>k_is);(case yRunStretch_2_1=>k_is);(case yRunStretch_2_2=>k_is);(case yRunStretch_2_3=>k_is);(case yRunStretch_2_4=>k_is)
         exact fun _ _ _ _ _ _=>all1 fun _=>rfl
       · refine' Zax ?yRunStretch_3_0 ?yRunStretch_3_1 ?yRunStretch_3_2 ?yRunStretch_3_3 ?yRunStretch_3_4 ?yRunStretch_3_5
         (case yRunStretch_3_0=>k_is);(case yRunStretch_3_1=>k_is);(case yRunStretch_3_2=>k_is);(case yRunStretch_3_3=>k_is);(case yRunStretch_3_4=>k_is)
         exact fun _ _ _ _ _ _=>all1 fun _=>rfl
       · refine' Zax ?yRunStretch_4_0 ?yRunStretch_4_1 ?yRunStretch_4_2 ?yRunStretch_4_3 ?yRunStretch_4_4 ?yRunStretch_4_5
         (case yRunStretch_4_0=>k_is);(case yRunStretch_4_1=>k_is);(case yRunStretch_4_2=>k_is);(case yRunStretch_4_3=>k_is);(case yRunStretch_4_4=>k_is)
         exact fun _ _ _ _ _ _=>all1 fun _=>rfl
       · refine' Zax ?yRunStretch_5_0 ?yRunStretch_5_1 ?yRunStretch_5_2 ?yRunStretch_5_3 ?yRunStretch_5_4 ?yRunStretch_5_5
         (case yRunStretch_5_0=>k_is);(case yRunStretch_5_1=>k_is);(case yRunStretch_5_2=>k_is);(case yRunStretch_5_3=>k_is);(case yRunStretch_5_4=>k_is)
         exact fun _ _ _ _ _ _=>all1 fun _=>rfl
       · refine' Zax ?yRunStretch_6_0 ?yRunStretch_6_1 ?yRunStretch_6_2 ?yRunStretch_6_3 ?yRunStretch_6_4 ?yRunStretch_6_5
         (case yRunStretch_6_0=>k_is);(case yRunStretch_6_1=>k_is);(case yRunStretch_6_2=>k_is);(case yRunStretch_6_3=>k_is);(case yRunStretch_6_4=>k_is)
         exact fun _ _ _ _ _ _=>all1 fun _=>rfl
       · show PySem.W.findIn _ _ _=_
         k_is
     obtain ⟨C,a,b0,b1,b2,b3,b4,b5,b6,b7⟩:=z;exact ⟨C,a,b0,b1,b2,b3,b4,b5,b6,b7⟩
   obtain ⟨C_RunStretch,cd_RunStretch⟩:=e_RunStretch;have e_Marks:∃ C,CD_Marks (L2.KOf KX) mg C:=by
     have z:∃ C,mg "Marks"=some (.ref C)∧(Cls (L2.KOf KX) C)∧(MakerAt (L2.KOf KX) C "Marks.__init__" Zbl ["self"])∧(MDefAt (L2.KOf KX) C "many" "Marks.many" Zch ["self"])∧(MDefAt (L2.KOf KX) C "told" "Marks.told" Zcb ["self"])∧(MDefAt (L2.KOf KX) C "book" "Marks.book" Zb6 ["self"])∧(MDefAt (L2.KOf KX) C "key_list" "Marks.key_list" Zbm ["self"])∧(MDefAt (L2.KOf KX) C "stretch_at" "Marks.stretch_at" Za4 ["self","key"])∧(MDefAt (L2.KOf KX) C "word_at" "Marks.word_at" Zby ["self","key"])∧(MDefAt (L2.KOf KX) C "found" "Marks.found" ZbT ["self","key"])∧(MDefAt (L2.KOf KX) C "stands" "Marks.stands" ZbC ["self","at","key"])∧(MDefAt (L2.KOf KX) C "ahead_of" "Marks.ahead_of" Zbn ["self","at"])∧(MDefAt (L2.KOf KX) C "keep" "Marks.keep" Zb9 ["self","key","stretch"])∧(NoAttr (L2.KOf KX) C "keyed")∧(NoAttr (L2.KOf KX) C "aheads")∧(NoAttr (L2.KOf KX) C "stretches")∧(NoAttr (L2.KOf KX) C "held"):=by
       dsimp only [L2.KOf];refine' Zf5 KX G ?aMarks ?rMarks
       (case aMarks=>k_is)
       refine' ⟨?_,?_,?_,?_,?_,?_,?_,?_,?_,?_,?_,?_,?_,?_,?_,?_⟩
       · refine' ⟨?yMarks_0_0,?yMarks_0_1,?yMarks_0_2,?yMarks_0_3⟩
         (case yMarks_0_0=>k_is);(case yMarks_0_1=>k_is);(case yMarks_0_2=>k_is);(case yMarks_0_3=>k_is)
       · refine' Zdi ?yMarks_1_0 ?yMarks_1_1 ?yMarks_1_2 ?yMarks_1_3 ?yMarks_1_4 ?yMarks_1_5 ?yMarks_1_6 ?yMarks_1_7
         (case yMarks_1_0=>k_is);(case yMarks_1_1=>k_is);(case yMarks_1_2=>k_is);(case yMarks_1_3=>k_is);(case yMarks_1_4=>k_is);(case yMarks_1_5=>k_is);(case yMarks_1_6=>k_is)
         exact fun _ _ _ _ _ _=>all1 fun _=>rfl
       · refine' Zax ?yMarks_2_0 ?yMarks_2_1 ?yMarks_2_2 ?yMarks_2_3 ?yMarks_2_4 ?yMarks_2_5
         (case yMarks_2_0=>k_is);(case yMarks_2_1=>k_is);(case yMarks_2_2=>k_is);(case yMarks_2_3=>k_is);(case yMarks_2_4=>k_is)
         exact fun _ _ _ _ _ _=>all1 fun _=>rfl
       · refine' Zax ?yMarks_3_0 ?yMarks_3_1 ?yMarks_3_2 ?yMarks_3_3 ?yMarks_3_4 ?yMarks_3_5
         (case yMarks_3_0=>k_is);(case yMarks_3_1=>k_is);(case yMarks_3_2=>k_is);(case yMarks_3_3=>k_is);(case yMarks_3_4=>k_is)
         exact fun _ _ _ _ _ _=>all1 fun _=>rfl
       · refine' Zax ?yMarks_4_0 ?yMarks_4_1 ?yMarks_4_2 ?yMarks_4_3 ?yMarks_4_4 ?yMarks_4_5
         (case yMarks_4_0=>k_is);(case yMarks_4_1=>k_is);(case yMarks_4_2=>k_is);(case yMarks_4_3=>k_is);(case yMarks_4_4=>k_is)
         exact fun _ _ _ _ _ _=>all1 fun _=>rfl
       · refine' Zax ?yMarks_5_0 ?yMarks_5_1 ?yMarks_5_2 ?yMarks_5_3 ?yMarks_5_4 ?yMarks_5_5
         (case yMarks_5_0=>k_is);(case yMarks_5_1=>k_is);(case yMarks_5_2=>k_is);(case yMarks_5_3=>k_is);(case yMarks_5_4=>k_is)
         exact fun _ _ _ _ _ _=>all1 fun _=>rfl
       · refine' Zax ?yMarks_6_0 ?yMarks_6_1 ?yMarks_6_2 ?yMarks_6_3 ?yMarks_6_4 ?yMarks_6_5
         (case yMarks_6_0=>k_is);(case yMarks_6_1=>k_is);(case yMarks_6_2=>k_is);(case yMarks_6_3=>k_is);(case yMarks_6_4=>k_is)
         exact fun _ _ _ _ _ _=>all2 fun _ _=>rfl
       · refine' Zax ?yMarks_7_0 ?yMarks_7_1 ?yMarks_7_2 ?yMarks_7_3 ?yMarks_7_4 ?yMarks_7_5
         (case yMarks_7_0=>k_is);(case yMarks_7_1=>k_is);(case yMarks_7_2=>k_is);(case yMarks_7_3=>k_is);(case yMarks_7_4=>k_is)
         exact fun _ _ _ _ _ _=>all2 fun _ _=>rfl
       · refine' Zax ?yMarks_8_0 ?yMarks_8_1 ?yMarks_8_2 ?yMarks_8_3 ?yMarks_8_4 ?yMarks_8_5
         (case yMarks_8_0=>k_is);(case yMarks_8_1=>k_is);(case yMarks_8_2=>k_is);(case yMarks_8_3=>k_is);(case yMarks_8_4=>k_is)
         exact fun _ _ _ _ _ _=>all2 fun _ _=>rfl
       · refine' Zax ?yMarks_9_0 ?yMarks_9_1 ?yMarks_9_2 ?yMarks_9_3 ?yMarks_9_4 ?yMarks_9_5
         (case yMarks_9_0=>k_is);(case yMarks_9_1=>k_is);(case yMarks_9_2=>k_is);(case yMarks_9_3=>k_is);(case yMarks_9_4=>k_is)
         exact fun _ _ _ _ _ _=>all3 fun _ _ _=>rfl
       · refine' Zax ?yMarks_10_0 ?yMarks_10_1 ?yMarks_10_2 ?yMarks_10_3 ?yMarks_10_4 ?yMarks_10_5
         (case yMarks_10_0=>k_is);(case yMarks_10_1=>k_is);(case yMarks_10_2=>k_is);(case yMarks_10_3=>k_is);(case yMarks_10_4=>k_is)
         exact fun _ _ _ _ _ _=>all2 fun _ _=>rfl
       · refine' Zax ?yMarks_11_0 ?yMarks_11_1 ?yMarks_11_2 ?yMarks_11_3 ?yMarks_11_4 ?yMarks_11_5
         (case yMarks_11_0=>k_is);(case yMarks_11_1=>k_is);(case yMarks_11_2=>k_is);(case yMarks_11_3=>k_is);(case yMarks_11_4=>k_is)
         exact fun _ _ _ _ _ _=>all3 fun _ _ _=>rfl
       · show PySem.W.findIn _ _ _=_
         k_is
       · show PySem.W.findIn _ _ _=_
         k_is
       · show PySem.W.findIn _ _ _=_
         k_is
       · show PySem.W.findIn _ _ _=_
         k_is
     obtain ⟨C,a,b0,b1,b2,b3,b4,b5,b6,b7,b8,b9,b10,b11,b12,b13,b14,b15⟩:=z;exact ⟨C,a,b0,b1,b2,b3,b4,b5,b6,b7,b8,b9,b10,b11,b12,b13,b14,b15⟩
   obtain ⟨C_Marks,cd_Marks⟩:=e_Marks;have c_PLACES:∃ t,mg "PLACES"=some (.int 256 t):=by
     refine' ZdL KX G ?cPLACES
     (case cPLACES=>k_is)
   have c_LOWER_1:∃ t,mg "LOWER_1"=some (.int 38597363079105398474523661669562635951089994888546854679819194669304376546645 t):=by
     refine' ZdL KX G ?cLOWER_1
     (case cLOWER_1=>k_is)
   have c_LOWER_2:∃ t,mg "LOWER_2"=some (.int 23158417847463239084714197001737581570653996933128112807891516801582625927987 t):=by
     refine' ZdL KX G ?cLOWER_2
     (case cLOWER_2=>k_is)
   have c_LOWER_4:∃ t,mg "LOWER_4"=some (.int 6811299366900952671974763824040465167839410862684739061144563765171360567055 t):=by
     refine' ZdL KX G ?cLOWER_4
     (case cLOWER_4=>k_is)
   have c_LOWER_8:∃ t,mg "LOWER_8"=some (.int 450552876409790643671482431940419874915447411150352389258589821042463539455 t):=by
     refine' ZdL KX G ?cLOWER_8
     (case cLOWER_8=>k_is)
   have c_GREATEST:∃ t,mg "GREATEST"=some (.int 65535 t):=by
     refine' ZdL KX G ?cGREATEST
     (case cGREATEST=>k_is)
   have B:Blt mg:=by
     refine' ⟨PySem.W.mg_none_of KX G ?z0,PySem.W.mg_none_of KX G ?z1,PySem.W.mg_none_of KX G ?z2,PySem.W.mg_none_of KX G ?z3,PySem.W.mg_none_of KX G ?z4,PySem.W.mg_none_of KX G ?z5,PySem.W.mg_none_of KX G ?z6,PySem.W.mg_none_of KX G ?z7,PySem.W.mg_none_of KX G ?z8,PySem.W.mg_none_of KX G ?z9,PySem.W.mg_none_of KX G ?z10⟩
     (case z0=>k_is);(case z1=>k_is);(case z2=>k_is);(case z3=>k_is);(case z4=>k_is);(case z5=>k_is);(case z6=>k_is);(case z7=>k_is);(case z8=>k_is);(case z9=>k_is);(case z10=>k_is)
   have L:∃ fd,Fun (L2.KOf KX) "law" "law" Zey fa fd∧∀ (s:Shared) (v:Value),BindsTo s fd ⟨[v],[]⟩ [("_law_script",v)]:=by
     dsimp only [L2.KOf];refine' My.law_mk KX G hmg ?aL ?lL ?cL ?kL
     (case aL=>k_is);(case lL=>k_is);(case cL=>k_is);(case kL=>k_is)
   obtain ⟨fd,FL,bL⟩:=L;refine ⟨fd,bL,fun base _ _ hTB=>?_⟩
   let c:Kd→Addr:=fun k=>match k with | .l=>C_ListStretch | .b=>C_BitStretch | .r=>C_RunStretch
   have cL:CD_ListStretch (L2.KOf KX) mg (c .l):=cd_ListStretch;have cB:CD_BitStretch (L2.KOf KX) mg (c .b):=cd_BitStretch;have cR:CD_RunStretch (L2.KOf KX) mg (c .r):=cd_RunStretch;have cc:∀ k,Cls (L2.KOf KX) (c k):=fun k=>match k with | .l=>cL.c | .b=>cB.c | .r=>cR.c
   have h_l_mixed:=ok_mixed (P:=PySem.Challenge.rw_runmarks_k36_whole_joins_undone.prog) (w:=w) (base:=base) D_l_mixed;have h_l_cell_at:=Ziw (P:=PySem.Challenge.rw_runmarks_k36_whole_joins_undone.prog) (w:=w) (base:=base) B D_l_cell_at
   have uq:=uqK (L2.KOf KX);have h_span_word:=Zf0 (P:=PySem.Challenge.rw_runmarks_k36_whole_joins_undone.prog) (w:=w) (base:=base) (Zgs D_all_below) D_span_word;have h_first_one:=Zgn (P:=PySem.Challenge.rw_runmarks_k36_whole_joins_undone.prog) (w:=w) (base:=base) (ZhM D_last_one) D_first_one;have h_counted:=ZhW (P:=PySem.Challenge.rw_runmarks_k36_whole_joins_undone.prog) (w:=w) (base:=base) ⟨c_LOWER_1,c_LOWER_2,c_LOWER_4,c_LOWER_8⟩ D_counted;have h_runs_of:=Zib (P:=PySem.Challenge.rw_runmarks_k36_whole_joins_undone.prog) (w:=w) (base:=base) h_first_one h_span_word D_runs_of;have h_places_of:=ZfO (P:=PySem.Challenge.rw_runmarks_k36_whole_joins_undone.prog) (w:=w) (base:=base) h_first_one (ZdO D_without_first) D_places_of;have h_word_of:=Zin (P:=PySem.Challenge.rw_runmarks_k36_whole_joins_undone.prog) (w:=w) (base:=base) D_word_of;have h_word_of_runs:=Zd4 (P:=PySem.Challenge.rw_runmarks_k36_whole_joins_undone.prog) (w:=w) (base:=base) h_span_word D_word_of_runs;have iL:=Zj5 (P:=PySem.Challenge.rw_runmarks_k36_whole_joins_undone.prog) (w:=w) (base:=base) B cL;have iB:=ZjE (P:=PySem.Challenge.rw_runmarks_k36_whole_joins_undone.prog) (w:=w) (base:=base) cB;have iR:=Zki (P:=PySem.Challenge.rw_runmarks_k36_whole_joins_undone.prog) (w:=w) (base:=base) B cR;have hw:∀ k,MethAt PySem.Challenge.rw_runmarks_k36_whole_joins_undone.prog w (L2.KOf KX) mg base (c k) "word" ["self"] 4 (spWordM c k):=fun k=>match k with | .l=>Zj8 h_word_of cL | .b=>Zkh cB | .r=>Zkn h_word_of_runs cR
   have h_sizes:=ok_sizes (P:=PySem.Challenge.rw_runmarks_k36_whole_joins_undone.prog) (w:=w) (base:=base) c_PLACES h_counted D_sizes;have h_kept:=ok_kept (P:=PySem.Challenge.rw_runmarks_k36_whole_joins_undone.prog) (w:=w) (base:=base) h_sizes h_places_of h_runs_of iL iB iR D_kept;have hmany:∀ k,MethAt PySem.Challenge.rw_runmarks_k36_whole_joins_undone.prog w (L2.KOf KX) mg base (c k) "many" ["self"] 5 (spManyM c k):=fun k=>ok_many hw h_counted k (cc k) (match k with | .l=>cL.m_many | .b=>cB.m_many | .r=>cR.m_many)
   have h_halved:=fun base=>ZjN (P:=PySem.Challenge.rw_runmarks_k36_whole_joins_undone.prog) (w:=w) (base:=base) D_halved
   have h_hk:=(ok_hkeys (P:=PySem.Challenge.rw_runmarks_k36_whole_joins_undone.prog) (w:=w) (base:=base) B (hTB _ (.head _)) h_halved (DefAt.toC KX G D_halved_keys (hTI _ (.head _)))).imp (hkT uq (.head _));have h_is_whole:=ZhI (P:=PySem.Challenge.rw_runmarks_k36_whole_joins_undone.prog) (w:=w) (base:=base) B D_is_whole;have h_check:=ok_check (P:=PySem.Challenge.rw_runmarks_k36_whole_joins_undone.prog) (w:=w) (base:=base) c_GREATEST h_is_whole D_check_number;have h_found:=ok_found (c:=c) h_hk cd_Marks;have h_stands:=ZjT (P:=PySem.Challenge.rw_runmarks_k36_whole_joins_undone.prog) (w:=w) (base:=base) (c:=c) B cd_Marks;have h_ahead:=ok_ahead (P:=PySem.Challenge.rw_runmarks_k36_whole_joins_undone.prog) (w:=w) (base:=base) (c:=c) B cd_Marks;have h_stAt:=Zfe h_found h_stands cd_Marks;have h_keep:=ok_keep h_found h_stands h_ahead hmany cd_Marks;have h_Marks:=ok_initM (P:=PySem.Challenge.rw_runmarks_k36_whole_joins_undone.prog) (w:=w) (base:=base) (c:=c) (ts:=tsK (L2.KOf KX)) cd_Marks;have h_gathered:=ZhC h_Marks h_keep D_gathered;have h_of_words:=Zhl B h_kept h_gathered D_of_words;have h_marks_of:=ZgU c_PLACES h_check h_of_words D_marks_of;have hkind:∀ k,MethAt PySem.Challenge.rw_runmarks_k36_whole_joins_undone.prog w (L2.KOf KX) mg base (c k) "kind" ["self"] 4 (spKindS k):=fun k=>match k with | .l=>(Zkq cL).mono (by decide) | .b=>(Zkj cB).mono (by decide) | .r=>(Zj0 cR).mono (by decide)
   have hbody:∀ k,MethAt PySem.Challenge.rw_runmarks_k36_whole_joins_undone.prog w (L2.KOf KX) mg base (c k) "body" ["self"] 4 (spBodyN c k):=fun k=>match k with | .l=>(Zia B cL).mono (by decide) | .b=>(Zil cB).mono (by decide) | .r=>(ZhT B cR).mono (by decide)
   have h_key_list:=ZgL (P:=PySem.Challenge.rw_runmarks_k36_whole_joins_undone.prog) (w:=w) (base:=base) (c:=c) B cd_Marks;have h_word_at:=Zic h_stAt hw cd_Marks;have h_many:=Zkk (P:=PySem.Challenge.rw_runmarks_k36_whole_joins_undone.prog) (w:=w) (base:=base) (c:=c) cd_Marks;have h_told:=ok_toldM B hkind hbody cd_Marks;have h_book:=ok_bookM (P:=PySem.Challenge.rw_runmarks_k36_whole_joins_undone.prog) (w:=w) (base:=base) (c:=c) B cd_Marks;have h_both:=ok_both B h_key_list D_keys_of_both;have h_common:=ZjS h_both h_word_at h_kept h_gathered D_common;have h_joined:=ZjA h_both h_word_at h_kept h_gathered D_joined;have h_less:=ok_less h_both h_word_at h_kept h_gathered D_less;have h_either:=ZjX h_both h_word_at h_kept h_gathered D_either;have h_shared:=Zkf B h_key_list h_word_at h_counted D_shared;have h_lies:=ok_lies h_shared h_many D_lies_in;have h_l_alike:=ok_alike h_told h_book h_many D_l_alike;have h_l_within:=Zku B h_lies D_l_within;have h_l_three:=ok_three h_l_alike h_common h_joined h_less h_either D_l_three;have h_l_piece:=ZiD (P:=PySem.Challenge.rw_runmarks_k36_whole_joins_undone.prog) (w:=w) (base:=base) B D_l_piece;have h_l_sets:=Zkr B h_l_mixed h_l_cell_at h_l_piece D_l_sets;exact (ok_law B h_l_mixed h_l_cell_at h_l_sets h_l_alike h_common h_joined h_less h_either h_marks_of h_shared h_l_within h_l_three h_told h_many FL).mono (by decide)
#print axioms PySem.Challenge.cw_runmarks_k36_whole_joins_undone_holds
