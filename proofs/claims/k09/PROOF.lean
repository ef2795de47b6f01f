import PyProof.Rows.All
import Wide.All
import OpenK.AllK
import Wide.FinOn
import Lean
import PyProof.EqAt
import PyProof.EqKinds
import PyProof.TupleCall
import PyProof.Rows.TupIter
import PyProof.ZipIter
import KE.KIntText
import KE.IntTextLaws
import PyProof.StrBlockI
import PyProof.ConsumeWalk
import PyProof.StrLawsIn
import PyProof.MinMaxWalk
import PyProof.WalkInts
import PyProof.WalksMore
import PyProof.SeqI3
import PyProof.Rows.SetFrom
import PyProof.Rows.SortShell
import OpenK.KMore
import KE.KSortTup
import KE.KDictSum
import KE.KTryOn
import PyProof.NsDelKeeps
import PyProof.RulesAs
import PyProof.ExcArgsOwn
import PyProof.IsiH_list
import KE.KIsAll
import PyProof.Rows.FStr
import PyProof.FString
import PyProof.ExcInit
import PyProof.ReprStr
import PyProof.StrLawsRepr
import PyProof.Rows.StrDouble
import PyProof.Rows.StrClose
import PySem.Challenge.RW_runmarks_k09_refusals
set_option maxHeartbeats 4000000
local macro_rules | `(tactic| omega) => `(tactic| lia)
local macro_rules | `(tactic| walk_at "l") => `(tactic| first | exact Or.inl rfl | exact Or.inr rfl)
local macro_rules | `(tactic| walk_at "s") => `(tactic| exact ⟨rfl,rfl,rfl,by decide +kernel,rfl,by decide +kernel,by decide +kernel⟩)
set_option Elab.async false
set_option linter.all false
set_option maxRecDepth 100000
namespace L2
open PySem PySem.Spec PyProof.Rows
abbrev Key:=Sum Int Str
def keyIs:Key→Value→Bool
  | .inl k,v=>Value.isInt k v
  | .inr x,v=>Value.isStrOf x v
def keyH (w:World):Key→Int
  | .inl k=>hashInt k
  | .inr x=>hashStr w x
theorem keyIs_shape:∀ {k:Key} {v:Value},keyIs k v=true→(∃ i t,k=Sum.inl i∧v=Value.int i t)∨(∃ x t,k=Sum.inr x∧v=Value.str x t)
  | .inl i,v,h=>by
    obtain ⟨t,e⟩:=Value.isInt_shape (k:=i) (v:=v) h
    exact .inl ⟨i,t,rfl,e⟩
  | .inr x,v,h=>by
    obtain ⟨t,e⟩:=Value.isStrOf_shape (x:=x) (v:=v) h
    exact .inr ⟨x,t,rfl,e⟩
theorem key_ll (a b:Int):decide ((Sum.inl a:Key)=Sum.inl b)=(a==b):=by
  by_cases e:a=b
  · subst e;simp
  · have h:¬ (Sum.inl a:Key)=Sum.inl b:=fun q=>e (Sum.inl.inj q)
    rw [decide_eq_false h]
    exact (beq_eq_false_iff_ne.mpr e).symm
theorem key_rr (a b:Str):decide ((Sum.inr a:Key)=Sum.inr b)=decide (a=b):=by
  by_cases e:a=b
  · subst e;simp
  · have h:¬ (Sum.inr a:Key)=Sum.inr b:=fun q=>e (Sum.inr.inj q)
    rw [decide_eq_false h,decide_eq_false e]
theorem key_lr (a:Int)(b:Str):decide ((Sum.inl a:Key)=Sum.inr b)=false:=decide_eq_false (fun q=>nomatch q)
theorem key_rl (a:Str)(b:Int):decide ((Sum.inr a:Key)=Sum.inl b)=false:=decide_eq_false (fun q=>nomatch q)
def mixKind (prog:Program) (w:World):PySem.KeyKind prog w Key where
  is:=keyIs
  hash:=keyH w
  inj := fun v a b ha hb=>by
    rcases keyIs_shape ha with ⟨i,t,rfl,rfl⟩ | ⟨x,t,rfl,rfl⟩
    · rcases keyIs_shape hb with ⟨j,u,rfl,e⟩ | ⟨y,u,rfl,e⟩
      · injection e with e1 _;rw [e1]
      · exact nomatch e
    · rcases keyIs_shape hb with ⟨j,u,rfl,e⟩ | ⟨y,u,rfl,e⟩
      · exact nomatch e
      · injection e with e1 _;rw [e1]
  byValue:=fun k v h=>by
    rcases keyIs_shape h with ⟨i,t,rfl,rfl⟩ | ⟨x,t,rfl,rfl⟩<;>rfl
  pyHash:=fun hv h=>by
    rcases keyIs_shape hv with ⟨i,t,rfl,rfl⟩ | ⟨x,t,rfl,rfl⟩
    · exact wpAny_pyHash_int h
    · exact wpAny_pyHash_str h
  eqBool:=fun hu hv h=>by
    rcases keyIs_shape hu with ⟨i,t,rfl,rfl⟩ | ⟨x,t,rfl,rfl⟩
    · rcases keyIs_shape hv with ⟨j,u,rfl,rfl⟩ | ⟨y,u,rfl,rfl⟩
      · rw [key_ll] at h;exact wpAny_eqBool_int h
      · rw [key_lr] at h;exact SeqAt.EqAt.int_str i t y u _ _ _ _ h
    · rcases keyIs_shape hv with ⟨j,u,rfl,rfl⟩ | ⟨y,u,rfl,rfl⟩
      · rw [key_rl] at h;exact SeqAt.EqAt.str_int x t j u _ _ _ _ h
      · rw [key_rr] at h;exact wpAny_eqBool_str h
  «strs»:=fun k x t v h=>by
    rcases keyIs_shape h with ⟨i,u,rfl,e⟩ | ⟨y,u,rfl,e⟩
    · exact nomatch e
    · injection e with e1 _
      subst e1
      cases v<;>rfl
end L2
namespace L2
open PySem PySem.Spec PyProof.Rows
inductive V where
  | non | bl (b:Bool) | int (i:Int) | str (x:Str) | byt (b:Array UInt8) | flt (b:UInt64) | ref (a:Addr) | ty (n:String)
  deriving DecidableEq
def RelV:V→Value→Prop
  | .non,u=>u=Value.none
  | .bl b,u=>u=Value.bool b
  | .int i,u=>∃ t,u=Value.int i t
  | .str x,u=>∃ t,u=Value.str x t
  | .byt b,u=>∃ t,u=Value.bytes b t
  | .flt b,u=>∃ t,u=Value.float b t
  | .ref a,u=>u=Value.ref a
  | .ty n,u=>u=Value.type n
abbrev Vals:List V→List Value→Prop:=Paired RelV
theorem Vals.length {xs:List V}{us:List Value}(r:Vals xs us):xs.length=us.length:=Paired.length r
theorem Vals.get:∀ {xs:List V} {us:List Value} {i:Nat} {x:V},Vals xs us→xs[i]?=some x→∃ u,us[i]?=some u∧RelV x u
  | _,_,_,_,.nil,e=>by simp at e
  | _,_,0,_,.cons r _,e=>by simp at e;subst e;exact ⟨_,rfl,r⟩
  | _,_,i+1,x,.cons _ t,e=>by
    obtain ⟨u,h1,h2⟩:=Vals.get (i:=i) (x:=x) t (by simpa using e)
    exact ⟨u,by simpa using h1,h2⟩
theorem Vals.append:∀ {xs ys:List V} {us ws:List Value},Vals xs us→Vals ys ws→Vals (xs++ys) (us++ws)
  | _,_,_,_,.nil,s=>s
  | _,_,_,_,.cons r t,s=>.cons r (Vals.append t s)
def RelO:Option V→Option Value→Prop
  | some v,some u=>RelV v u
  | none,none=>True
  | _,_=>False
def KV {κ:Type}:List (κ × V)→List (κ × Value)→Prop:=Paired fun (p:κ × V) (q:κ × Value)=>p.1=q.1∧RelV p.2 q.2
def kV:Key→V
  | .inl i=>.int i
  | .inr x=>.str x
inductive HO where
  | lst (xs:List V)
  | tup (xs:List V)
  | dK (kvs:List (Key × V)) | dT (kvs:List (List Key × V))
  | set (S:Int→Bool) (n:Nat)
  | ins (C dx:Addr) (fs:List (Str × V))
  | own (x:Addr)
  | xd (fs:List (Str × V))
  | met (f x:Addr)
  | rng (lo hi:Int)
  | frz (o:Obj) (u:HO)
  | tbl (ps:Array Value)
  | ext (φ:Heap→Prop)
abbrev Hp:=Addr→Option HO
def upd (H:Hp)(a:Addr)(o:HO):Hp:=fun b=>if b=a then some o else H b
theorem upd_same {H:Hp}{a:Addr}{o:HO}:upd H a o a=some o:=by unfold upd;rw [if_pos rfl]
theorem upd_ne {H:Hp}{a b:Addr}{o:HO}(h:b≠a):upd H a o b=H b:=by unfold upd;rw [if_neg h]
theorem upd_upd {H:Hp}{a:Addr}{o u:HO}:upd (upd H a o) a u=upd H a u:=by
  funext b;unfold upd;split<;>rfl
theorem ne_of_none {H:Hp}{a b:Addr}{o:HO}(h:H a=some o)(h':H b=none):a≠b:=by
  intro e;subst e;rw [h] at h';cases h'
section
variable (P:Program)(w:World)
def ObjOk (H:Hp)(h:Heap)(a:Addr):HO→Prop
  | .lst xs=>xs.length≤sizeLine∧∃ (its:List Value) (n:Nat),Vals xs its∧h.get? a=some { cls:=.type "list",data:=.seq its.toArray n }
  | .tup xs=>xs.length≤sizeLine∧∃ its:List Value,Vals xs its∧IsTup h a its.toArray
  | .dK kvs=>kvs.length≤sizeLine∧(a==sysModules)=false∧∃ vs,KV kvs vs∧h.DictOf (mixKind P w) a vs
  | .dT kvs=>kvs.length≤sizeLine∧(a==sysModules)=false∧∃ xs:List (List Key × Addr × Value),
      Paired (fun (p:List Key × V) (q:List Key × Addr × Value)=>p.1=q.1∧H q.2.1=some (.tup (p.1.map kV))∧RelV p.2 q.2.2) kvs xs ∧
      ∃ o es ep,h.get? a=some o∧o.ExactDict∧o.data=.dict es ep∧es.toList=xs.map (entryOfKey (tupleKind (mixKind P w)))∧(xs.map (·.1)).Nodup
  | .set S n=>h.SetOf (intKind P w) a S n
  | .ins C dx fs=>H dx=some (.own a)∧fs.length≤1000∧dx≠a∧h.get? a=some (PySem.W.instObj C dx) ∧
      ∃ mA,h.Ns1 dx mA∧(∀ f,RelO (fs.lookup f) (mA f))∧PySem.Within mA (fs.map (·.1))
  | .own _=>∃ o,h.get? a=some o
  | .xd fs=>∃ mA,h.Ns1 a mA∧∀ f,RelO (fs.lookup f) (mA f)
  | .rng lo hi=>∃ t u v,h.get? a=some { cls:=.type "range",data:=.fields #[.int lo t,.int hi u,.int 1 v] }
  | .frz o u=>h.get? a=some o∧ObjOk H h a u
  | .tbl ps=>h.get? a=some { cls:=.none,data:=.fields ps }
  | .met f x=>h.get? a=some (PySem.W.methodObj (.ref f) (.ref x))
  | .ext φ=>φ h∧(∃ o,h.get? a=some o)∧∀ h1 h2:Heap,φ h1→(∀ o,h1.get? a=some o→h2.get? a=some o)→φ h2
def HOk (H:Hp)(h:Heap):Prop:=∀ a o,H a=some o→ObjOk P w H h a o
end
section
variable {P:Program}{w:World}{H H':Hp}{h h':Heap}{a:Addr}{o:HO}
theorem ObjOk.lt (x:ObjOk P w H h a o):a<h.objs.size:=by
  cases o with
  | lst xs=>obtain ⟨_,_,_,_,e⟩:=x;exact Heap.lt_size e
  | tup xs=>obtain ⟨_,_,_,p⟩:=x;exact p.lt
  | dK kvs=>obtain ⟨_,_,_,_,o,_,_,e,_⟩:=x;exact Heap.lt_size e
  | dT kvs=>obtain ⟨_,_,_,_,o,_,_,e,_⟩:=x;exact Heap.lt_size e
  | set S n=>obtain ⟨o,_,_,_,e,_⟩:=x;exact Heap.lt_size e
  | ins C dx fs=>obtain ⟨_,_,_,e,_⟩:=x;exact Heap.lt_size e
  | own y=>obtain ⟨_,e⟩:=x;exact Heap.lt_size e
  | xd fs=>obtain ⟨_,⟨_,_,_,e,_⟩,_⟩:=x;exact Heap.lt_size e
  | rng lo hi=>obtain ⟨_,_,_,e⟩:=x;exact Heap.lt_size e
  | frz ob u=>obtain ⟨e,_⟩:=x;exact Heap.lt_size e
  | tbl ps=>exact Heap.lt_size (show h.get? a=some _ from x)
  | met f y=>exact Heap.lt_size (show h.get? a=some _ from x)
  | ext φ=>obtain ⟨_,⟨_,e⟩,_⟩:=x;exact Heap.lt_size e
theorem Paired.mapP {α β:Type}{F G:α→β→Prop}:∀ {l₁:List α} {l₂:List β},Paired F l₁ l₂→(∀ a b,F a b→G a b)→Paired G l₁ l₂
  | _,_,.nil,_=>.nil
  | _,_,.cons r t,f=>.cons (f _ _ r) (Paired.mapP t f)
theorem ObjOk.stay (x:ObjOk P w H h a o)(k:∀ b u,(b=a∨H b=some (.own a))→h.get? b=some u→h'.get? b=some u)
    (ho:∀ b,H b=some (.own a)→H' b=some (.own a)) (ht:∀ b xs,H b=some (.tup xs)→H' b=some (.tup xs)):ObjOk P w H' h' a o:=by
  induction o with
  | lst xs=>obtain ⟨z,its,n,r,e⟩:=x;exact ⟨z,its,n,r,k _ _ (.inl rfl) e⟩
  | tup xs=>obtain ⟨z,its,r,ob,e,c⟩:=x;exact ⟨z,its,r,ob,k _ _ (.inl rfl) e,c⟩
  | dK kvs=>obtain ⟨z,y,vs,r,ob,es,ep,e,c⟩:=x;exact ⟨z,y,vs,r,ob,es,ep,k _ _ (.inl rfl) e,c⟩
  | dT kvs =>
    obtain ⟨z,y,xs,r,ob,es,ep,e,c⟩:=x
    exact ⟨z,y,xs,Paired.mapP r fun p q z=>⟨z.1,ht _ _ z.2.1,z.2.2⟩,ob,es,ep,k _ _ (.inl rfl) e,c⟩
  | set S n=>obtain ⟨ob,es,ep,t,e,c⟩:=x;exact ⟨ob,es,ep,t,k _ _ (.inl rfl) e,c⟩
  | ins C dx fs =>
    obtain ⟨d,z,ne,e,mA,⟨od,es,ep,e2,c⟩,r⟩:=x
    exact ⟨ho _ d,z,ne,k _ _ (.inl rfl) e,mA,⟨od,es,ep,k _ _ (.inr d) e2,c⟩,r⟩
  | own y=>obtain ⟨ob,e⟩:=x;exact ⟨ob,k _ _ (.inl rfl) e⟩
  | xd fs=>obtain ⟨mA,⟨od,es,ep,e,c⟩,r⟩:=x;exact ⟨mA,⟨od,es,ep,k _ _ (.inl rfl) e,c⟩,r⟩
  | rng lo hi=>obtain ⟨t,u,v,e⟩:=x;exact ⟨t,u,v,k _ _ (.inl rfl) e⟩
  | frz ob u ih=>obtain ⟨e,q⟩:=x;exact ⟨k _ _ (.inl rfl) e,ih q⟩
  | tbl ps =>
    have e:h.get? a=some { cls:=.none,data:=.fields ps }:=x
    show h'.get? a=some { cls:=.none,data:=.fields ps }
    exact k a _ (.inl rfl) e
  | met f y =>
    have e:h.get? a=some (PySem.W.methodObj (.ref f) (.ref y)):=x
    show h'.get? a=some (PySem.W.methodObj (.ref f) (.ref y))
    exact k a _ (.inl rfl) e
  | ext φ=>obtain ⟨p,⟨o,e⟩,st⟩:=x;exact ⟨st _ _ p fun o q=>k _ _ (.inl rfl) q,⟨o,k _ _ (.inl rfl) e⟩,st⟩
theorem HOk.lt (x:HOk P w H h)(e:H a=some o):a<h.objs.size:=(x a o e).lt
theorem HOk.fresh (x:HOk P w H h)(e:h.objs.size≤a):H a=none:=by
  cases q:H a with
  | none=>rfl
  | some u=>exact absurd (Nat.lt_of_lt_of_le (x.lt q) e) (Nat.lt_irrefl _)
theorem HOk.kept (x:HOk P w H h)(k:∀ b u,h.get? b=some u→h'.get? b=some u):HOk P w H h':=fun a o e =>
  (x a o e).stay (fun b u _ q=>k b u q) (fun _ q=>q) fun _ _ q=>q
theorem HOk.laid (x:HOk P w H h)(k:∀ b u,h.get? b=some u→h'.get? b=some u)(hp:h.objs.size≤a)(new:ObjOk P w (upd H a o) h' a o):HOk P w (upd H a o) h':=fun b u e=>by
  have hn:=x.fresh hp
  by_cases hb:b=a
  · subst hb;rw [upd_same] at e;cases e;exact new
  · rw [upd_ne hb] at e
    exact (x b u e).stay (fun c v _ q=>k c v q) (fun c q=>by rw [upd_ne (ne_of_none q hn)];exact q) fun c xs q=>by rw [upd_ne (ne_of_none q hn)];exact q
end
def Rd (H:Hp)(a:Addr)(u:HO):Prop:=H a=some u∨∃ o,H a=some (.frz o u)
theorem Rd.ok {P:Program}{w:World}{H:Hp}{h:Heap}{a:Addr}{u:HO}(r:Rd H a u)(x:HOk P w H h):ObjOk P w H h a u:=by
  rcases r with r | ⟨o,r⟩
  · exact x a u r
  · obtain ⟨_,q⟩:=x a _ r
    exact q
def Mut:Option HO→Prop
  | some (.lst _)=>True
  | some (.dK _)=>True
  | some (.dT _)=>True
  | some (.set _ _)=>True
  | some (.ins _ _ _)=>True
  | some (.ext _)=>True
  | _=>False
section
variable {P:Program}{w:World}{H:Hp}{h h':Heap}{x e:Addr}{o':HO}
theorem HOk.write (ok:HOk P w H h) (mu:Mut (H x)) (he:e=x∨H e=some (.own x)) (k:∀ b u,b≠e→h.get? b=some u→h'.get? b=some u) (heo:∃ u,h'.get? e=some u)
    (new:ObjOk P w (upd H x o') h' x o'):HOk P w (upd H x o') h':=fun b u q=>by
  have nown:∀ c y,H c=some (.own y)→c≠x:=fun c y r z=>by subst z;rw [r] at mu;exact mu
  have ntup:∀ c xs,H c=some (.tup xs)→c≠x:=fun c xs r z=>by subst z;rw [r] at mu;exact mu
  by_cases hb:b=x
  · subst hb;rw [upd_same] at q;cases q;exact new
  · rw [upd_ne hb] at q
    by_cases hbe:b=e
    · have q':H b=some (.own x):=by
        rcases he with z | z
        · exact absurd (hbe.trans z) hb
        · rw [hbe];exact z
      rw [q] at q';cases q'
      obtain ⟨v,hv⟩:=heo
      exact ⟨v,by rw [hbe];exact hv⟩
    · refine (ok b u q).stay (fun c v hc r=>k c v ?_ r) (fun c r=>by rw [upd_ne (nown c b r)];exact r) fun c xs r=>by rw [upd_ne (ntup c xs r)];exact r
      rcases hc with rfl | hc
      · exact hbe
      · rintro rfl
        rcases he with z | z
        · exact nown c b hc z
        · rw [hc] at z;cases z;exact hb rfl
end
structure Un (fs ex:List Addr)(H H':Hp)(h h':Heap):Prop where
  keep:∀ b o,h.get? b=some o→H b=none→b∉fs→b∉ex→h'.get? b=some o
  slot:∀ b o,h.get? b=some o→H b=none→b∈fs→b∉ex→∃ sl,h'.get? b=some { o with slots:=sl }
  free:∀ b o,h.get? b=some o→H b=none→b∉ex→H' b=none
  there:∀ b o,h.get? b=some o→b∉ex→∃ o',h'.get? b=some o'
  tups:∀ b xs,H b=some (.tup xs)→H' b=some (.tup xs)
  frzs:∀ b o u,H b=some (.frz o u)→H' b=some (.frz o u)
  tbls:∀ b ps,H b=some (.tbl ps)→∃ more,H' b=some (.tbl (ps++more))
section
variable {fs fs' ex ex':List Addr}{H H1 H2:Hp}{h h1 h2 h':Heap}{a x e:Addr}{o:HO}
theorem Un.any (u:Un fs ex H H1 h h1){b:Addr}{ob:Obj}(q:h.get? b=some ob)(n:H b=none)(hx:b∉ex):∃ sl,h1.get? b=some { ob with slots:=sl }:=by
  by_cases hb:b∈fs
  · exact u.slot b ob q n hb hx
  · exact ⟨ob.slots,u.keep b ob q n hb hx⟩
theorem Un.trans (a:Un fs ex H H1 h h1)(b:Un fs ex H1 H2 h1 h2):Un fs ex H H2 h h2 where
  keep:=fun c ob q n hc hx=>b.keep c ob (a.keep c ob q n hc hx) (a.free c ob q n hx) hc hx
  slot:=fun c ob q n hc hx=>by
    obtain ⟨sl,e1⟩:=a.slot c ob q n hc hx
    obtain ⟨sl',e2⟩:=b.slot c _ e1 (a.free c ob q n hx) hc hx
    exact ⟨sl',e2⟩
  free:=fun c ob q n hx=>by
    obtain ⟨o',e1⟩:=a.there c ob q hx
    exact b.free c o' e1 (a.free c ob q n hx) hx
  there:=fun c ob q hx=>by
    obtain ⟨o',e1⟩:=a.there c ob q hx
    exact b.there c o' e1 hx
  tups:=fun c xs q=>b.tups c xs (a.tups c xs q)
  frzs:=fun c ob xs q=>b.frzs c ob xs (a.frzs c ob xs q)
  tbls:=fun c ps q=>by
    obtain ⟨m1,e1⟩:=a.tbls c ps q
    obtain ⟨m2,e2⟩:=b.tbls c _ e1
    exact ⟨m1++m2,by rw [e2,Array.append_assoc]⟩
theorem Un.kept (k:∀ b u,h.get? b=some u→h'.get? b=some u):Un fs ex H H h h' :=
  ⟨fun b ob q _ _ _=>k b ob q,fun b ob q _ _ _=>⟨ob.slots,k b ob q⟩,fun _ _ _ n _=>n,fun b ob q _=>⟨ob,k b ob q⟩,fun _ _ q=>q,fun _ _ _ q=>q,fun _ ps q=>⟨#[],by rw [q];simp⟩⟩
theorem Un.refl:Un fs ex H H h h:=Un.kept fun _ _ q=>q
theorem Un.laid (k:∀ b u,h.get? b=some u→h'.get? b=some u)(hp:h.objs.size≤a)(hn:H a=none):Un fs ex H (upd H a o) h h' where
  keep:=fun b u q _ _ _=>k b u q
  slot:=fun b u q _ _ _=>⟨u.slots,k b u q⟩
  free:=fun b u q n _=>by rw [upd_ne (Nat.ne_of_lt (Nat.lt_of_lt_of_le (Heap.lt_size q) hp))];exact n
  there:=fun b u q _=>⟨u,k b u q⟩
  tups:=fun b xs q=>by rw [upd_ne (ne_of_none q hn)];exact q
  frzs:=fun b u xs q=>by rw [upd_ne (ne_of_none q hn)];exact q
  tbls:=fun b ps q=>⟨#[],by rw [upd_ne (ne_of_none q hn),q];simp⟩
theorem Un.write (mu:Mut (H x))(he:e=x∨H e=some (.own x))(k:∀ b u,b≠e→h.get? b=some u→h'.get? b=some u)(heo:∃ u,h'.get? e=some u):Un fs ex H (upd H x o) h h':=by
  have hx:∀ b,H b=none→b≠x:=fun b n z=>by subst z;rw [n] at mu;exact mu
  have hb:∀ b,H b=none→b≠e:=fun b n z=>by
    subst z
    rcases he with r | r
    · exact hx b n r
    · rw [n] at r;cases r
  have hm:∀ b u,H b=some u→¬ Mut (some u)→b≠x:=fun b u q nm z=>by subst z;rw [q] at mu;exact nm mu
  refine ⟨fun b u q n _ _=>k b u (hb b n) q,fun b u q n _ _=>⟨u.slots,k b u (hb b n) q⟩,fun b u q n _=>by rw [upd_ne (hx b n)];exact n,fun b u q _=>?_,
    fun b xs q=>by rw [upd_ne (hm b _ q fun z=>z)];exact q,fun b u xs q=>by rw [upd_ne (hm b _ q fun z=>z)];exact q,fun b ps q=>⟨#[],by rw [upd_ne (hm b _ q fun z=>z),q];simp⟩⟩
  by_cases hbe:b=e
  · subst hbe;exact heo
  · exact ⟨u,k b u hbe q⟩
end
def trk (h:Heap)(H:Hp):List Addr:=(List.range h.objs.size).filter fun a=>(H a).isSome
def hidT (h:Heap)(H:Hp):Heap:=PySem.W.hideAll h (trk h H)
theorem hidT_size (h:Heap)(H:Hp):(hidT h H).objs.size=h.objs.size:=PySem.W.hideAll_size _ _
theorem hidT_get {h:Heap}{H:Hp}{b:Addr}{o:Obj}(e:h.get? b=some o)(n:H b=none):(hidT h H).get? b=some o :=
  PySem.W.hideAll_get _ e fun hm=>by
    have q:(H b).isSome=true:=(List.mem_filter.mp hm).2
    rw [n] at q;simp at q
theorem of_hidT {h:Heap}{H:Hp}{b:Addr}{o:Obj}(e:(hidT h H).get? b=some o):h.get? b=some o∧H b=none:=by
  have e':h.get? b=some o:=PySem.W.of_hideAll (trk h H) e
  refine ⟨e',?_⟩
  cases q:H b with
  | none=>rfl
  | some x =>
    have hm:b∈trk h H:=List.mem_filter.mpr ⟨List.mem_range.mpr (Heap.lt_size e'),by simp [q]⟩
    have z:(hidT h H).get? b=none:=PySem.W.hideAll_none (trk h H) hm
    rw [z] at e;cases e
def allNews (g h:Heap)(L:Addr):List (Addr × Obj):=(List.range h.objs.size).filterMap fun a=>if a=L∨(g.get? a).isSome=true then none else (h.get? a).map fun o=>(a,o)
def rest (g h:Heap)(L d:Addr):List (Addr × Obj):=(allNews g h L).filter fun p=>decide (p.1≠d)
end L2
namespace L2
open PySem PySem.Spec PyProof.Rows
structure Mod (K:PySem.W.Frag)(mg:Str→Option Value)(base:Heap):Prop where
  kin:K.In base
  glob:base.Ns mainGlobals mg
  blt:∃ mb,base.Ns builtinsNs mb∧∀ x:Str,x≠"__name__"→mb x=bootBuiltins x
  nolimit:base.NoLimit
structure Cx where
  prog:Program
  w:World
  K:PySem.W.Frag
  mg:Str→Option Value
  base:Heap
  A:Around
  N:List Str
  s₀:Shared
  H₀:Hp
  env:Env
  outer:List Env
  stack:List Env
  ex:List Addr
  fn:Str→Bool
  calm:Bool
  pn:List (Addr × Obj)
  xe:Value→Shared→Prop
def frs (l:List Env):List Addr:=l.filterMap (·.frame)
abbrev Cx.fs (X:Cx):List Addr:=frs X.outer
def Vis (sc:Scope)(x:Str):Prop:=sc.names.lookup x=some .local∨sc.names.lookup x=some .cell∨sc.names.lookup x=some .free
def Loc (sc:Scope)(x:Str):Prop:=sc.names.lookup x=some .local∨sc.names.lookup x=some .cell
def Look (env:Env)(h:Heap)(m:Str→Option Value)(x:Str)(u:Value):Prop :=
  (env.kindOf x=some .local∧m x=some u)∨((env.kindOf x=some .cell∨env.kindOf x=some .free)∧∃ c,env.cells.lookup x=some c∧h.IsCell c (some u))
structure Cx.Ok (X:Cx):Prop where
  mod:Mod X.K X.mg X.base
  kind:X.env.scope.kind=.function
  glob:X.env.globals=mainGlobals
  blt:X.env.builtins=builtinsNs
  above:X.s₀.heap.objs.size≤X.env.locals
  inj:∀ x y c,X.env.cells.lookup x=some c→X.env.cells.lookup y=some c→x=y
  has:∀ x,(X.env.kindOf x=some .cell∨X.env.kindOf x=some .free)→∃ c,X.env.cells.lookup x=some c
  cab:∀ x c,X.fn x=true→X.env.cells.lookup x=some c→X.s₀.heap.objs.size≤c
  hd:X.calm=true→X.A.handled=none
  frames:X.A.frames=some X.stack
  stk:X.stack=X.outer∨(X.stack=X.env::X.outer∧X.env.frame=some X.env.locals)
  exf:∀ b∈X.ex,b≠X.env.locals∧∀ x c,X.env.cells.lookup x=some c→c≠b
  bs:∀ b o,X.base.get? b=some o→X.s₀.heap.get? b=some o∧X.H₀ b=none
  bsz:X.base.objs.size≤X.s₀.heap.objs.size
  noex:∀ b o,X.base.get? b=some o→b∉X.ex
  exfs:∀ b∈X.ex,b∉X.fs
  funs:X.s₀.heap.FunFrames X.base X.outer
  frf:∀ b∈X.fs,X.H₀ b=none
structure Inv (X:Cx)(pins:List (Addr × Obj))(σ:List (Option V))(H:Hp)(s:Shared):Prop where
  ok:X.Ok
  os:s.os=X.s₀.os
  bare:AllBare s.gens
  base:Un X.fs X.ex X.H₀ H X.s₀.heap s.heap
  loc:∃ m,s.heap.Ns X.env.locals m∧∀ (i:Nat) (x:Str) (v:V),X.N[i]?=some x→σ[i]?=some (some v)→Vis X.env.scope x→∃ u,RelV v u∧Look X.env s.heap m x u
  cell:∀ x c,X.env.cells.lookup x=some c→∃ v,s.heap.IsCell c v
  free:H X.env.locals=none
  freeC:∀ x c,X.env.cells.lookup x=some c→H c=none
  pin:∀ p∈X.pn++pins,s.heap.get? p.1=some p.2∧H p.1=none∧p.1≠X.env.locals∧p.1∉X.fs∧∀ v,p.2.data≠.cell v
  hok:HOk X.prog X.w H s.heap
  len:σ.length=X.N.length
section
variable {X:Cx}{pins:List (Addr × Obj)}{σ:List (Option V)}{H H':Hp}{s:Shared}{h':Heap}
theorem Cx.Ok.nofr (ok:X.Ok){b:Addr}{o:Obj}(e:X.base.get? b=some o):b∉X.fs:=fun hb=>by
  have:=(ok.funs.mem hb).1
  rw [e] at this;cases this
theorem Inv.bs (I:Inv X pins σ H s):∀ b o,X.base.get? b=some o→s.heap.get? b=some o∧H b=none:=fun b o e =>
  ⟨I.base.keep b o (I.ok.bs b o e).1 (I.ok.bs b o e).2 (I.ok.nofr e) (I.ok.noex b o e),I.base.free b o (I.ok.bs b o e).1 (I.ok.bs b o e).2 (I.ok.noex b o e)⟩
theorem Inv.bk (I:Inv X pins σ H s):∀ b o,X.base.get? b=some o→s.heap.get? b=some o:=fun b o e=>(I.bs b o e).1
theorem Inv.mod (I:Inv X pins σ H s):Mod X.K X.mg X.base:=I.ok.mod
theorem Inv.kIn (I:Inv X pins σ H s):X.K.In s.heap:=I.ok.mod.kin.keeps I.bk
theorem Inv.lt (I:Inv X pins σ H s):X.env.locals<s.heap.objs.size:=let ⟨_,hn,_⟩:=I.loc;hn.lt
theorem Inv.sz (I:Inv X pins σ H s):X.s₀.heap.objs.size≤s.heap.objs.size:=Nat.le_trans I.ok.above (Nat.le_of_lt I.lt)
theorem Inv.nofs (I:Inv X pins σ H s){a:Addr}(h:s.heap.objs.size≤a):a∉X.fs:=fun hb=>by
  obtain ⟨_,o,ho,_⟩:=I.ok.funs.mem hb
  exact absurd (Nat.lt_of_lt_of_le (Heap.lt_size ho) (Nat.le_trans I.sz h)) (Nat.lt_irrefl _)
theorem Inv.cne (I:Inv X pins σ H s):∀ x c,X.env.cells.lookup x=some c→c≠X.env.locals:=fun x c e z=>by
  obtain ⟨v,o,ho,hd⟩:=I.cell x c e
  obtain ⟨m,⟨o',es,ep,ho',hd',_⟩,_⟩:=I.loc
  rw [z,ho'] at ho;cases ho;rw [hd'] at hd;cases hd
theorem Inv.funs (I:Inv X pins σ H s):s.heap.FunFrames X.base X.outer:=by
  have all:∀ (l:List Env),(∀ b∈frs l,b∈X.fs)→X.s₀.heap.FunFrames X.base l→s.heap.FunFrames X.base l:=by
    intro l
    induction l with
    | nil=>intro _ _;trivial
    | cons env r ih =>
      intro hs hl
      obtain ⟨hk,⟨L,o,hf,hn,ho,hd⟩,hr⟩:=hl
      have hL:L∈X.fs:=hs L (by unfold frs;rw [List.filterMap_cons,hf];exact List.mem_cons_self)
      obtain ⟨sl,e⟩:=I.base.slot L o ho (I.ok.frf L hL) hL fun z=>I.ok.exfs L z hL
      exact ⟨hk,⟨L,_,hf,hn,e,hd⟩,ih (fun b hb=>hs b (by unfold frs;rw [List.filterMap_cons,hf];exact List.mem_cons_of_mem _ hb)) hr⟩
  exact all X.outer (fun _ hb=>hb) I.ok.funs
theorem Inv.stack (I:Inv X pins σ H s):s.heap.FunFrames X.base X.stack:=by
  rcases I.ok.stk with e | ⟨e,hf⟩
  · rw [e];exact I.funs
  · rw [e]
    obtain ⟨m,hn,_⟩:=I.loc
    refine .cons (by rw [I.ok.kind];decide) hf hn ?_ I.funs
    exact Heap.get?_none_of_le (Nat.le_trans I.ok.bsz I.ok.above)
theorem Inv.stkSub (I:Inv X pins σ H s):∀ b∈frs X.stack,b∈X.env.locals::X.fs:=fun b hb=>by
  rcases I.ok.stk with e | ⟨e,hf⟩
  · rw [e] at hb;exact List.mem_cons_of_mem _ hb
  · rw [e] at hb
    unfold frs at hb
    rw [List.filterMap_cons,hf] at hb
    exact hb
theorem Inv.stkFree (I:Inv X pins σ H s):∀ b∈frs X.stack,H b=none:=fun b hb=>by
  rcases List.mem_cons.mp (I.stkSub b hb) with e | hb
  · rw [e];exact I.free
  · obtain ⟨_,o,ho,_⟩:=I.ok.funs.mem hb
    exact I.base.free b o ho (I.ok.frf b hb) fun z=>I.ok.exfs b z hb
theorem Inv.step {g':Array GenState}{t':Nat}{d':Drawn}{ch:List Addr}(I:Inv X pins σ H s)
    (hch:∀ b∈ch,(b∈X.ex∨X.s₀.heap.objs.size≤b)∧b≠X.env.locals∧(∀ x c,X.env.cells.lookup x=some c→c≠b)∧∀ p∈X.pn++pins,p.1≠b)
    (keep:∀ b o,b≠X.env.locals→b∉X.fs→b∉ch→s.heap.get? b=some o→H b=none→h'.get? b=some o)
    (slot:∀ b o,b≠X.env.locals→b∈X.fs→b∉ch→s.heap.get? b=some o→H b=none→∃ sl,h'.get? b=some { o with slots:=sl }) (free:∀ b o,b∉ch→s.heap.get? b=some o→H b=none→H' b=none)
    (there:∀ b o,b∉ch→s.heap.get? b=some o→∃ o',h'.get? b=some o')
    (tups:∀ b xs,H b=some (.tup xs)→H' b=some (.tup xs)) (frzs:∀ b o u,H b=some (.frz o u)→H' b=some (.frz o u)) (tbls:∀ b ps,H b=some (.tbl ps)→∃ more,H' b=some (.tbl (ps++more)))
    (ns:∀ m,s.heap.Ns X.env.locals m→h'.Ns X.env.locals m) (hok:HOk X.prog X.w H' h') (hg:AllBare g') :
    Inv X pins σ H' { s with heap:=h',gens:=g',drawn:=d',toks:=t' }:=by
  have neL:∀ b o,X.s₀.heap.get? b=some o→b≠X.env.locals:=fun b o e=>Nat.ne_of_lt (Nat.lt_of_lt_of_le (Heap.lt_size e) I.ok.above)
  have neC:∀ b o,X.s₀.heap.get? b=some o→b∉X.ex→b∉ch:=fun b o e hx hb=>by
    rcases (hch b hb).1 with z | z
    · exact hx z
    · exact absurd (Nat.lt_of_lt_of_le (Heap.lt_size e) z) (Nat.lt_irrefl _)
  have cellK:∀ x c,X.env.cells.lookup x=some c→∀ v,s.heap.IsCell c v→h'.IsCell c v:=fun x c e v ⟨o,ho,hd⟩=>by
    have nch:c∉ch:=fun z=>(hch c z).2.2.1 x c e rfl
    by_cases hc:c∈X.fs
    · obtain ⟨sl,q⟩:=slot c o (I.cne x c e) hc nch ho (I.freeC x c e)
      exact ⟨_,q,hd⟩
    · exact ⟨o,keep c o (I.cne x c e) hc nch ho (I.freeC x c e),hd⟩
  refine ⟨I.ok,I.os,hg,⟨fun b o e n hb hx=>?_,fun b o e n hb hx=>?_,fun b o e n hx=>?_,fun b o e hx=>?_,fun b xs e=>tups b xs (I.base.tups b xs e),fun b o xs e=>frzs b o xs (I.base.frzs b o xs e),fun b ps e=>?_⟩,?_,fun x c e=>?_,?_,fun x c e=>?_,fun p hp=>?_,hok,I.len⟩
  · exact keep b o (neL b o e) hb (neC b o e hx) (I.base.keep b o e n hb hx) (I.base.free b o e n hx)
  · obtain ⟨sl,e1⟩:=I.base.slot b o e n hb hx
    obtain ⟨sl',e2⟩:=slot b _ (neL b o e) hb (neC b o e hx) e1 (I.base.free b o e n hx)
    exact ⟨sl',e2⟩
  · obtain ⟨o',e1⟩:=I.base.there b o e hx
    exact free b o' (neC b o e hx) e1 (I.base.free b o e n hx)
  · obtain ⟨o',e1⟩:=I.base.there b o e hx
    exact there b o' (neC b o e hx) e1
  · obtain ⟨m1,e1⟩:=I.base.tbls b ps e
    obtain ⟨m2,e2⟩:=tbls b _ e1
    exact ⟨m1++m2,by rw [e2,Array.append_assoc]⟩
  · obtain ⟨m,hn,hl⟩:=I.loc
    refine ⟨m,ns m hn,fun i x v e1 e2 e3=>?_⟩
    obtain ⟨u,r,l⟩:=hl i x v e1 e2 e3
    refine ⟨u,r,?_⟩
    rcases l with l | ⟨k,c,e,z⟩
    · exact .inl l
    · exact .inr ⟨k,c,e,cellK x c e _ z⟩
  · obtain ⟨v,z⟩:=I.cell x c e
    exact ⟨v,cellK x c e v z⟩
  · obtain ⟨m,⟨o,_,_,ho,_⟩,_⟩:=I.loc
    exact free _ o (fun z=>(hch _ z).2.1 rfl) ho I.free
  · obtain ⟨v,o,ho,hd⟩:=I.cell x c e
    exact free c o (fun z=>(hch c z).2.2.1 x c e rfl) ho (I.freeC x c e)
  · obtain ⟨e,n,ne,nf,d⟩:=I.pin p hp
    have nch:p.1∉ch:=fun z=>(hch p.1 z).2.2.2 p hp rfl
    exact ⟨keep p.1 p.2 ne nf nch e n,free p.1 p.2 nch e n,ne,nf,d⟩
theorem Inv.un {t':Nat}(I:Inv X pins σ H s)(u:Un X.fs [] H H' s.heap h')(hok:HOk X.prog X.w H' h'):Inv X pins σ H' { s with heap:=h',toks:=t' }:=by
  obtain ⟨m,⟨o,es,ep,ho,r⟩,_⟩:=id I.loc
  obtain ⟨sl,hL⟩:=u.any ho I.free (by simp)
  exact I.step (g':=s.gens) (d':=s.drawn) (ch:=[]) (fun _ z=>nomatch z) (fun b o _ hb _ e n=>u.keep b o e n hb (by simp)) (fun b o _ hb _ e n=>u.slot b o e n hb (by simp)) (fun b o _ e n=>u.free b o e n (by simp)) (fun b o _ e=>u.there b o e (by simp)) u.tups u.frzs u.tbls (fun m' hm=>by
    obtain ⟨o',es',ep',ho',r'⟩:=hm
    rw [ho] at ho';cases ho'
    exact ⟨_,es',ep',hL,r'⟩) hok I.bare
theorem Inv.call {g':Array GenState}{t':Nat}{d':Drawn}{ch:List Addr}(I:Inv X pins σ H s)(u:Un (frs X.stack) ch H H' s.heap h')(hok:HOk X.prog X.w H' h')(hg:AllBare g')
    (hch:∀ b∈ch,(b∈X.ex∨X.s₀.heap.objs.size≤b)∧b≠X.env.locals∧(∀ x c,X.env.cells.lookup x=some c→c≠b)∧∀ p∈X.pn++pins,p.1≠b) :
    Inv X pins σ H' { s with heap:=h',gens:=g',drawn:=d',toks:=t' }:=by
  obtain ⟨m,⟨o,es,ep,ho,r⟩,_⟩:=id I.loc
  obtain ⟨sl,hL⟩:=u.any ho I.free fun z=>(hch _ z).2.1 rfl
  exact I.step (ch:=ch) hch (fun b o hL hb hc e n=>u.keep b o e n (fun z=>(List.mem_cons.mp (I.stkSub b z)).elim hL hb) hc) (fun b o _ _ hc e n=>u.any e n hc) (fun b o hc e n=>u.free b o e n hc) (fun b o hc e=>u.there b o e hc) u.tups u.frzs u.tbls (fun m' hm=>by
    obtain ⟨o',es',ep',ho',r'⟩:=hm
    rw [ho] at ho';cases ho'
    exact ⟨_,es',ep',hL,r'⟩) hok hg
theorem Inv.turned {t':Nat}{it:Addr}(I:Inv X pins σ H s)(k:∀ b o,b≠it→s.heap.get? b=some o→h'.get? b=some o)(hn:H it=none)(hL:it≠X.env.locals)
    (h1:it∈X.ex∨X.s₀.heap.objs.size≤it) (h2:∀ x c,X.env.cells.lookup x=some c→c≠it) (h3:∀ p∈X.pn++pins,p.1≠it):Inv X pins σ H { s with heap:=h',toks:=t' }:=by
  have nit:∀ b u,H b=some u→b≠it:=fun b u e z=>by rw [z,hn] at e;cases e
  refine I.step (g':=s.gens) (d':=s.drawn) (ch:=[it]) (fun b hb=>?_) (fun b o _ _ hc e _=>k b o (fun z=>hc (by simp [z])) e) (fun b o _ _ hc e _=>⟨o.slots,k b o (fun z=>hc (by simp [z])) e⟩) (fun _ _ _ _ n=>n)
    (fun b o hc e=>⟨o,k b o (fun z=>hc (by simp [z])) e⟩) (fun _ _ e=>e) (fun _ _ _ e=>e) (fun b ps e=>⟨#[],by rw [e];simp⟩) (fun m hm=>?_) (fun b u e=>?_) I.bare
  · have e:b=it:=by simpa using hb
    subst e
    exact ⟨h1,hL,h2,h3⟩
  · obtain ⟨o,es,ep,ho,r⟩:=hm
    exact ⟨o,es,ep,k _ o (Ne.symm hL) ho,r⟩
  · refine (I.hok b u e).stay (fun c v hc q=>k c v ?_ q) (fun _ q=>q) fun _ _ q=>q
    rcases hc with z | z
    · rw [z];exact nit b u e
    · exact nit c _ z
theorem Inv.tok (I:Inv X pins σ H s)(t:Nat):Inv X pins σ H { s with toks:=t }:=I.un (h':=s.heap) (t':=t) Un.refl I.hok
theorem Inv.kept {t':Nat}(I:Inv X pins σ H s)(k:∀ b u,s.heap.get? b=some u→h'.get? b=some u):Inv X pins σ H { s with heap:=h',toks:=t' }:=I.un (Un.kept k) (I.hok.kept k)
theorem Inv.laid {a:Addr}{o:HO}{t':Nat}(I:Inv X pins σ H s)(k:∀ b u,s.heap.get? b=some u→h'.get? b=some u)(hp:s.heap.objs.size≤a)(new:ObjOk X.prog X.w (upd H a o) h' a o) :
    Inv X pins σ (upd H a o) { s with heap:=h',toks:=t' }:=I.un (Un.laid k hp (I.hok.fresh hp)) (I.hok.laid k hp new)
theorem Inv.write {x e:Addr}{o:HO}{t':Nat}(I:Inv X pins σ H s)(mu:Mut (H x))(he:e=x∨H e=some (.own x))(k:∀ b u,b≠e→s.heap.get? b=some u→h'.get? b=some u)(heo:∃ u,h'.get? e=some u)
    (new:ObjOk X.prog X.w (upd H x o) h' x o):Inv X pins σ (upd H x o) { s with heap:=h',toks:=t' }:=I.un (Un.write mu he k heo) (I.hok.write mu he k heo new)
theorem Inv.weak {σ':List (Option V)}(I:Inv X pins σ H s)(hl:σ'.length=σ.length)(w:∀ (i:Nat) v,σ'[i]?=some (some v)→σ[i]?=some (some v)):Inv X pins σ' H s :=
  ⟨I.ok,I.os,I.bare,I.base,let ⟨m,hn,hl'⟩:=I.loc;⟨m,hn,fun i x v e1 e2 e3=>hl' i x v e1 (w i v e2) e3⟩,I.cell,I.free,I.freeC,I.pin,I.hok,hl.trans I.len⟩
theorem Inv.pins_of {pins':List (Addr × Obj)}(I:Inv X pins σ H s)(h:∀ p∈pins',s.heap.get? p.1=some p.2∧H p.1=none∧p.1≠X.env.locals∧p.1∉X.fs∧∀ v,p.2.data≠.cell v):Inv X pins' σ H s :=
  ⟨I.ok,I.os,I.bare,I.base,I.loc,I.cell,I.free,I.freeC,fun p hp=>(List.mem_append.mp hp).elim (fun z=>I.pin p (List.mem_append_left _ z)) (h p),I.hok,I.len⟩
theorem nodup_ix {N:List Str}(hN:N.Nodup){i j:Nat}{x:Str}(a:N[i]?=some x)(b:N[j]?=some x):i=j:=by
  obtain ⟨h1,e1⟩:=List.getElem?_eq_some_iff.mp a
  obtain ⟨h2,e2⟩:=List.getElem?_eq_some_iff.mp b
  exact (List.getElem_inj hN).mp (e1.trans e2.symm)
theorem store_ok2 {M:Model} {A:Around} {E:Value→Shared→Prop} {i:Nat} {x:Str} {v:V} {u:Value} {Q:Unit→Shared→Prop} (I:Inv X pins σ H s) (hN:X.N.Nodup) (hi:X.N[i]?=some x) (hx:Loc X.env.scope x) (r:RelV v u)
    (h:∀ s',Inv X pins (σ.set i (some v)) H s'→(∃ a,Heap.SameBut a s.heap s'.heap∧(a=X.env.locals∨X.env.cells.lookup x=some a))→Q () s') (hf:X.fn x=true∨X.env.scope.names.lookup x=some .local:=by first | exact .inl rfl | exact .inr rfl | assumption):wpAny M A (storeName X.env x u) Q E s:=by
  obtain ⟨m,hn,hl⟩:=id I.loc
  have hcls:(X.env.scope.kind==.class||(X.env.scope.kind==.module&&X.env.locals != X.env.globals))=false:=by rw [I.ok.kind];rfl
  have hiσ:i<σ.length:=by rw [I.len];exact (List.getElem?_eq_some_iff.mp hi).1
  have cne:=I.cne
  have tracked:∀ {a:Addr} {h':Heap},(∃ o,s.heap.get? a=some o∧H a=none)→Heap.SameBut a s.heap h'→HOk X.prog X.w H h':=fun {a h'} ha hs b ob e=>by
    obtain ⟨_,_,hfree⟩:=ha
    refine (I.hok b ob e).stay (fun c w' hc q=>(hs.2 c ?_).trans q) (fun _ q=>q) fun _ _ q=>q
    rintro rfl
    rcases hc with rfl | hc
    · rw [hfree] at e;cases e
    · rw [hfree] at hc;cases hc
  rcases hx with hk | hk
  · refine wpAny_storeName_local hk hn (fun h' hn' hs=>?_) hcls
    obtain ⟨oL,_,_,hoL,_⟩:=id hn
    refine h _ ⟨I.ok,I.os,I.bare,⟨fun b o e n hb hx=>?_,fun b o e n hb hx=>?_,I.base.free,fun b o e hx=>?_,I.base.tups,I.base.frzs,I.base.tbls⟩,⟨_,hn',fun j y v' e1 e2 e3=>?_⟩,fun y c e=>?_,I.free,I.freeC,fun p hp=>?_,tracked ⟨oL,hoL,I.free⟩ hs,by simpa using I.len⟩ ⟨_,hs,.inl rfl⟩
    · exact (hs.2 b (Nat.ne_of_lt (Nat.lt_of_lt_of_le (Heap.lt_size e) I.ok.above))).trans (I.base.keep b o e n hb hx)
    · obtain ⟨sl,e1⟩:=I.base.slot b o e n hb hx
      exact ⟨sl,(hs.2 b (Nat.ne_of_lt (Nat.lt_of_lt_of_le (Heap.lt_size e) I.ok.above))).trans e1⟩
    · obtain ⟨o',e1⟩:=I.base.there b o e hx
      exact ⟨o',(hs.2 b (Nat.ne_of_lt (Nat.lt_of_lt_of_le (Heap.lt_size e) I.ok.above))).trans e1⟩
    · by_cases hj:j=i
      · subst hj
        rw [hi] at e1;cases e1
        rw [List.getElem?_set_self hiσ] at e2
        cases e2
        exact ⟨u,r,.inl ⟨hk,by simp⟩⟩
      · rw [List.getElem?_set_ne (Ne.symm hj)] at e2
        obtain ⟨u',r',q⟩:=hl j y v' e1 e2 e3
        refine ⟨u',r',?_⟩
        rcases q with ⟨k,e⟩ | ⟨k,c,e,z⟩
        · refine .inl ⟨k,?_⟩
          have:y≠x:=fun e=>hj (nodup_ix hN e1 (e ▸ hi))
          simp [this,e]
        · exact .inr ⟨k,c,e,z.sameBut hs (cne y c e)⟩
    · obtain ⟨w',z⟩:=I.cell y c e
      exact ⟨w',z.sameBut hs (cne y c e)⟩
    · obtain ⟨e,n,ne,nf,d⟩:=I.pin p hp
      exact ⟨(hs.2 p.1 ne).trans e,n,ne,nf,d⟩
  · have hfn:X.fn x=true:=by
      rcases hf with z | z
      · exact z
      · rw [z] at hk;cases hk
    obtain ⟨c,hc⟩:=I.ok.has x (.inl hk)
    obtain ⟨w',z⟩:=I.cell x c hc
    refine wpAny_storeName_cell I.ok.kind hk hc z (fun h' hc' hs=>?_)
    obtain ⟨oc,hoc,hocd⟩:=id z
    refine h { s with heap:=h' } ⟨I.ok,I.os,I.bare,⟨fun b o e n hb hx=>?_,fun b o e n hb hx=>?_,I.base.free,fun b o e hx=>?_,I.base.tups,I.base.frzs,I.base.tbls⟩,⟨m,hn.sameBut hs (Ne.symm (cne x c hc)),fun j y v' e1 e2 e3=>?_⟩,fun y c' e=>?_,I.free,I.freeC,fun p hp=>?_,tracked ⟨oc,hoc,I.freeC x c hc⟩ hs,by simpa using I.len⟩ ⟨c,hs,.inr hc⟩
    · exact (hs.2 b (Nat.ne_of_lt (Nat.lt_of_lt_of_le (Heap.lt_size e) (I.ok.cab x c hfn hc)))).trans (I.base.keep b o e n hb hx)
    · obtain ⟨sl,e1⟩:=I.base.slot b o e n hb hx
      exact ⟨sl,(hs.2 b (Nat.ne_of_lt (Nat.lt_of_lt_of_le (Heap.lt_size e) (I.ok.cab x c hfn hc)))).trans e1⟩
    · obtain ⟨o',e1⟩:=I.base.there b o e hx
      exact ⟨o',(hs.2 b (Nat.ne_of_lt (Nat.lt_of_lt_of_le (Heap.lt_size e) (I.ok.cab x c hfn hc)))).trans e1⟩
    · by_cases hj:j=i
      · subst hj
        rw [hi] at e1;cases e1
        rw [List.getElem?_set_self hiσ] at e2
        cases e2
        exact ⟨u,r,.inr ⟨.inl hk,c,hc,hc'⟩⟩
      · rw [List.getElem?_set_ne (Ne.symm hj)] at e2
        obtain ⟨u',r',q⟩:=hl j y v' e1 e2 e3
        refine ⟨u',r',?_⟩
        rcases q with q | ⟨k,c',e,z'⟩
        · exact .inl q
        · refine .inr ⟨k,c',e,z'.sameBut hs ?_⟩
          rintro rfl
          exact hj (nodup_ix hN e1 (I.ok.inj _ _ _ e hc ▸ hi))
    · by_cases hcc:c'=c
      · subst hcc;exact ⟨_,hc'⟩
      · obtain ⟨w2,z2⟩:=I.cell y c' e
        exact ⟨w2,z2.sameBut hs hcc⟩
    · obtain ⟨e,n,ne,nf,d⟩:=I.pin p hp
      refine ⟨(hs.2 p.1 ?_).trans e,n,ne,nf,d⟩
      intro q
      rw [q,hoc] at e
      have q':oc=p.2:=Option.some.inj e
      exact d w' (by rw [← q'];exact hocd)
theorem store_ok {M:Model}{A:Around}{E:Value→Shared→Prop}{i:Nat}{x:Str}{v:V}{u:Value}{Q:Unit→Shared→Prop}(I:Inv X pins σ H s)(hN:X.N.Nodup)(hi:X.N[i]?=some x)(hx:Loc X.env.scope x)(r:RelV v u)
    (h:∀ s',Inv X pins (σ.set i (some v)) H s'→Q () s') (hf:X.fn x=true∨X.env.scope.names.lookup x=some .local:=by first | exact .inl rfl | exact .inr rfl | assumption):wpAny M A (storeName X.env x u) Q E s :=
  store_ok2 I hN hi hx r (fun s' I' _=>h s' I') hf
theorem Inv.call' {s':Shared}{ch:List Addr}(I:Inv X pins σ H s)(ho:s'.os=s.os)(u:Un (frs X.stack) ch H H' s.heap s'.heap)(hok:HOk X.prog X.w H' s'.heap)(hg:AllBare s'.gens)
    (hch:∀ b∈ch,(b∈X.ex∨X.s₀.heap.objs.size≤b)∧b≠X.env.locals∧(∀ x c,X.env.cells.lookup x=some c→c≠b)∧∀ p∈X.pn++pins,p.1≠b):Inv X pins σ H' s':=by
  obtain ⟨h',g',d',t',o'⟩:=s'
  have e:o'=s.os:=ho
  subst e
  exact I.call (g':=g') (t':=t') (d':=d') u hok hg hch
end
abbrev XK:=Value→Option Addr→Hp→Prop
abbrev St:=List (Option V)
abbrev VK:=V→Hp→Prop
abbrev TE:=St→Hp→VK→Prop
abbrev TT:=St→Hp→(Bool→Hp→Prop)→Prop
abbrev TA:=St→Hp→(List V→Hp→Prop)→Prop
structure Ends where
  nx:St→Hp→Prop
  rt:VK
  bk:St→Hp→Prop:=fun _ _=>False
  ct:St→Hp→Prop:=fun _ _=>False
abbrev TS:=Ends→St→Hp→Prop
def EP (X:Cx)(pins:List (Addr × Obj))(σ:St)(Q:VK)(u:Value)(s':Shared):Prop:=∃ v H',Inv X pins σ H' s'∧RelV v u∧Q v H'
def TP (X:Cx)(pins:List (Addr × Obj))(σ:St)(Q:Bool→Hp→Prop)(b:Bool)(s':Shared):Prop:=∃ H',Inv X pins σ H' s'∧Q b H'
def AP (X:Cx)(pins:List (Addr × Obj))(σ:St)(Q:List V→Hp→Prop)(us:List Value)(s':Shared):Prop:=∃ vs H',Inv X pins σ H' s'∧Vals vs us∧Q vs H'
def SP (X:Cx)(pins:List (Addr × Obj))(D:Ends)(f:Flow)(s':Shared):Prop :=
  match f with
  | .next=>∃ σ' H',Inv X pins σ' H' s'∧D.nx σ' H'
  | .brk=>∃ σ' H',Inv X pins σ' H' s'∧D.bk σ' H'
  | .cont=>∃ σ' H',Inv X pins σ' H' s'∧D.ct σ' H'
  | .ret u=>∃ v σ' H',Inv X pins σ' H' s'∧RelV v u∧D.rt v H'
def PE (X:Cx)(e:Expr)(t:TE):Prop :=
  ∀ (pins:List (Addr × Obj)) (s:Shared) (σ:St) (H:Hp) (Q:VK),Inv X pins σ H s→t σ H Q→wpAny (model X.prog X.w) X.A (eval e X.env) (EP X pins σ Q) X.xe s
def PT (X:Cx)(e:Expr)(t:TT):Prop :=
  ∀ (pins:List (Addr × Obj)) (s:Shared) (σ:St) (H:Hp) (Q:Bool→Hp→Prop),Inv X pins σ H s→t σ H Q→wpAny (model X.prog X.w) X.A (isTrue e X.env (eval e X.env)) (TP X pins σ Q) X.xe s
def PW (X:Cx)(e:Expr)(t:TT):Prop :=
  ∀ (whole:Sem Value) (pins:List (Addr × Obj)) (s:Shared) (σ:St) (H:Hp) (Q:Bool→Hp→Prop),Inv X pins σ H s→t σ H Q→wpAny (model X.prog X.w) X.A (isTrue e X.env whole) (TP X pins σ Q) X.xe s
theorem PW.pt {X:Cx}{e:Expr}{t:TT}(h:PW X e t):PT X e t:=h _
def PA (X:Cx)(es:List Expr)(t:TA):Prop :=
  ∀ (pos:Pos) (pins:List (Addr × Obj)) (s:Shared) (σ:St) (H:Hp) (Q:List V→Hp→Prop),Inv X pins σ H s→t σ H Q→wpAny (model X.prog X.w) X.A (spliced (backTo pos (starEach es X.env))) (AP X pins σ Q) X.xe s
def PS (X:Cx)(st:Stmt)(t:TS):Prop :=
  ∀ (pins:List (Addr × Obj)) (s:Shared) (σ:St) (H:Hp) (D:Ends),Inv X pins σ H s→t D σ H→wpAny (model X.prog X.w) X.A (exec st X.env) (SP X pins D) X.xe s
def PSs (X:Cx)(st:List Stmt)(t:TS):Prop :=
  ∀ (pins:List (Addr × Obj)) (s:Shared) (σ:St) (H:Hp) (D:Ends),Inv X pins σ H s→t D σ H→wpAny (model X.prog X.w) X.A (execs st X.env) (SP X pins D) X.xe s
theorem thn {α:Type}{t:Sem α}{Q Q':α→Shared→Prop}{M:Model}{A:Around}{E:Value→Shared→Prop}{s:Shared}(h:wpAny M A t Q E s)(hQ:∀ a s,Q a s→Q' a s):wpAny M A t Q' E s:=wpAny_mono h hQ fun _ _ x=>x
end L2
namespace L2
open PySem PySem.Spec PyProof.Rows
section
variable {X:Cx}
def tVar (i:Nat):TE:=fun σ H Q=>∃ v,σ[i]?=some (some v)∧Q v H
def tC (v:V):TE:=fun _ H Q=>Q v H
theorem pe_var {i:Nat}{x:Str}{pos:Pos}(hN:X.N[i]?=some x)(hv:Vis X.env.scope x)(hd:(x==("__debug__":Str))=false:=by decide)(hcd:(x==("__classdict__":Str))=false:=by decide):PE X (.Name x pos) (tVar i):=by
  intro pins s σ H Q I h
  obtain ⟨v,e,h⟩:=h
  obtain ⟨m,hn,hl⟩:=I.loc
  obtain ⟨u,r,l⟩:=hl i x v hN e hv
  have fin:EP X pins σ Q u s:=⟨v,H,I,r,h⟩
  rcases l with ⟨hk,hm⟩ | ⟨hk,c,hc,hcell⟩
  · exact wpAny_Name (wpAny_loadName_local I.ok.kind hk hn hm fin) hd
  · rcases hk with hk | hk
    · exact wpAny_Name (wpAny_loadName_cell I.ok.kind hk hc hcell fin) hd
    · exact wpAny_Name (wpAny_loadName_free I.ok.kind hk hc hcell fin hcd) hd
theorem pe_int {i j pos}:PE X (.Constant (.int i) j pos) (tC (.int i)):=fun _ _ _ H _ I h=>wpAny_Constant_int ⟨.int i,H,I.tok _,⟨_,rfl⟩,h⟩
theorem pe_bl {b j pos}:PE X (.Constant (.bool b) j pos) (tC (.bl b)):=fun _ _ _ H _ I h=>Constant_bool ⟨.bl b,H,I,rfl,h⟩
theorem pe_str {x j pos}:PE X (.Constant (.str x) j pos) (tC (.str x)):=fun _ _ _ H _ I h=>Calls.Constant_str ⟨.str x,H,I.tok _,⟨_,rfl⟩,h⟩
def Gl (X:Cx)(x:Str):Prop:=X.env.kindOf x=some .globalImplicit
theorem ld_glob {E:Value→Shared→Prop}{pins:List (Addr × Obj)}{s:Shared}{σ:St}{H:Hp}{x:Str}{u:Value}{pos:Pos}{Q:Value→Shared→Prop}(I:Inv X pins σ H s)(hg:Gl X x)(hm:X.mg x=some u)(h:Q u s)
    (hd:(x==("__debug__":Str))=false:=by decide):wpAny (model X.prog X.w) X.A (eval (.Name x pos) X.env) Q E s :=
  Calls.Name_function_global I.ok.kind hg (Calls.loadGlobal_global (by rw [I.ok.glob];exact I.mod.glob.keeps I.bk) hm h) hd
theorem ld_blt {E:Value→Shared→Prop}{pins:List (Addr × Obj)}{s:Shared}{σ:St}{H:Hp}{x:Str}{u:Value}{pos:Pos}{Q:Value→Shared→Prop}(I:Inv X pins σ H s)(hg:Gl X x)(hm:X.mg x=none)(hv:bootBuiltins x=some u)(h:Q u s)
    (hn:x≠"__name__":=by decide) (hd:(x==("__debug__":Str))=false:=by decide):wpAny (model X.prog X.w) X.A (eval (.Name x pos) X.env) Q E s:=by
  obtain ⟨mb,h1,h2⟩:=I.mod.blt
  exact Calls.Name_function_global I.ok.kind hg (Calls.loadGlobal_builtin (by rw [I.ok.glob];exact I.mod.glob.keeps I.bk) hm (by rw [I.ok.blt];exact h1.keeps I.bk) ((h2 x hn).trans hv) h) hd
theorem pe_glob {x:Str}{v:V}{u:Value}{pos:Pos}(hg:Gl X x)(hm:X.mg x=some u)(r:RelV v u)(hd:(x==("__debug__":Str))=false:=by decide):PE X (.Name x pos) (tC v) :=
  fun _ _ _ H _ I h=>ld_glob I hg hm ⟨v,H,I,r,h⟩ hd
theorem pe_bltn {x:Str}{v:V}{u:Value}{pos:Pos}(hg:Gl X x)(hm:X.mg x=none)(hv:bootBuiltins x=some u)(r:RelV v u)(hn:x≠"__name__":=by decide)(hd:(x==("__debug__":Str))=false:=by decide):PE X (.Name x pos) (tC v) :=
  fun _ _ _ H _ I h=>ld_blt I hg hm hv ⟨v,H,I,r,h⟩ hn hd
variable {a b:Expr}{ta tb:TE}{pos:Pos}
def tB (t:TE):TT:=fun σ H Q=>t σ H fun x H1=>∃ c,x=.bl c∧Q c H1
theorem pt_val {e:Expr}{t:TE}(h:PE X e t)(he:∀ whole,isTrue e X.env whole=(do let v ← whole;standAt e.pos;holding [v] (truthy v)):=by intro _;rfl):PT X e (tB t):=by
  intro pins s σ H Q I hw
  refine isTrue_plain (thn (h pins s σ H _ I hw) fun v s1 ⟨x,H1,I1,r1,q1⟩=>?_) (he _)
  obtain ⟨d,rfl,q⟩:=q1
  cases r1
  exact wpAny_truthy_bool ⟨H1,I1,q⟩
variable {tA tB':TT}{rest:List Expr}
def tOr (t u:TT):TT:=fun σ H Q=>t σ H fun c H1=>if c=true then Q true H1 else u σ H1 Q
def tNot (t:TT):TT:=fun σ H Q=>t σ H fun c H1=>Q (!c) H1
theorem pw_or1 (ha:PT X a tA):PW X (.BoolOp .Or [a] pos) tA:=by
  intro wh pins s σ H Q I h
  refine isTrue_or (thn (ha pins s σ H Q I h) fun c s1 e=>?_)
  cases c with
  | false=>exact isTrue_or_nil e
  | true=>exact e
theorem pw_or (ha:PT X a tA)(hb:PW X (.BoolOp .Or (b::rest) pos) tB'):PW X (.BoolOp .Or (a::b::rest) pos) (tOr tA tB'):=by
  intro wh pins s σ H Q I h
  refine isTrue_or (thn (ha pins s σ H _ I h) fun c s1 ⟨H1,I1,q1⟩=>?_)
  cases c with
  | true=>exact ⟨H1,I1,q1⟩
  | false=>exact hb wh pins s1 σ H1 Q I1 q1
theorem pt_not (ha:PT X a tA):PT X (.UnaryOp .Not a pos) (tNot tA):=by
  intro pins s σ H Q I h
  exact isTrue_not (ha pins s σ H (fun c H1=>Q (!c) H1) I h)
def tAndV (ta tb:TE):TE:=fun σ H Q=>ta σ H fun x H1=>∃ c,x=.bl c∧if c=true then tb σ H1 Q else Q (.bl false) H1
def tNotV (ta:TE):TE:=fun σ H Q=>ta σ H fun x H1=>∃ c,x=.bl c∧Q (.bl (!c)) H1
theorem pe_one {op}{t:TE}(h:PE X a t):PE X (.BoolOp op [a] pos) t:=fun pins s σ H Q I hw=>BoolOp_one (h pins s σ H Q I hw)
theorem pe_and (ha:PE X a ta)(hb:PE X (.BoolOp .And (b::rest) pos) tb):PE X (.BoolOp .And (a::b::rest) pos) (tAndV ta tb):=by
  intro pins s σ H Q I h
  refine BoolOp_and (thn (ha pins s σ H _ I h) fun v s1 ⟨x,H1,I1,r1,q1⟩=>?_)
  obtain ⟨c,rfl,q1⟩:=q1
  cases r1
  refine wpAny_truthy_bool ?_
  cases c with
  | true=>exact hb pins s1 σ H1 Q I1 q1
  | false=>exact ⟨.bl false,H1,I1,rfl,q1⟩
theorem pe_not (ha:PE X a ta):PE X (.UnaryOp .Not a pos) (tNotV ta):=by
  intro pins s σ H Q I h
  refine UnaryOp_ (thn (ha pins s σ H _ I h) fun v s1 ⟨x,H1,I1,r1,q1⟩=>?_)
  obtain ⟨c,rfl,q1⟩:=q1
  cases r1
  exact not_of (wpAny_truthy_bool ⟨.bl (!c),H1,I1,rfl,q1⟩)
end
end L2
namespace L2
open PySem PySem.Spec PyProof.Rows
def SqL (K:PySem.W.Frag) (H:Hp) (a:Addr) (xs:List V):Prop :=
  Rd H a (.lst xs) ∨
    ∃ (o:Obj) (its:Array Value) (n:Nat),K.lookup a=some o∧o.cls=.type "list"∧o.dict=none∧o.data=.seq its n∧its.size≤sizeLine∧Vals xs its.toList
def SqT (K:PySem.W.Frag) (H:Hp) (a:Addr) (xs:List V):Prop :=
  Rd H a (.tup xs) ∨
    ∃ (o:Obj) (its:Array Value) (n:Nat),K.lookup a=some o∧o.cls=.type "tuple"∧o.data=.seq its n∧its.size≤sizeLine∧Vals xs its.toList
section
variable {X:Cx}{pins:List (Addr × Obj)}{σ:St}{H:Hp}{s:Shared}{a:Addr}{xs ys:List V}
theorem SqL.of {K:PySem.W.Frag}(h:H a=some (.lst xs)):SqL K H a xs:=.inl (.inl h)
theorem Inv.list (I:Inv X pins σ H s)(h:SqL X.K H a xs):∃ its:List Value,Vals xs its∧PlainL s.heap a its.toArray∧xs.length≤sizeLine:=by
  rcases h with h | ⟨o,its,n,hk,hc,hd,hs,hz,r⟩
  · obtain ⟨z,its,n,r,e⟩:=h.ok I.hok
    exact ⟨its,r,⟨_,n,e,rfl,rfl,rfl⟩,z⟩
  · refine ⟨its.toList,r,⟨o,n,I.kIn a o hk,hc,hd,by simpa using hs⟩,?_⟩
    have e:=r.length
    simp only [Array.length_toList] at e
    omega
theorem Inv.tuple (I:Inv X pins σ H s)(h:SqT X.K H a xs):∃ its:List Value,Vals xs its∧IsTup s.heap a its.toArray∧xs.length≤sizeLine:=by
  rcases h with h | ⟨o,its,n,hk,hc,hs,hz,r⟩
  · obtain ⟨z,its,r,p⟩:=h.ok I.hok
    exact ⟨its,r,p,z⟩
  · refine ⟨its.toList,r,⟨o,I.kIn a o hk,hc,n,by simpa using hs⟩,?_⟩
    have e:=r.length
    simp only [Array.length_toList] at e
    omega
end
abbrev Cx.wish (X:Cx)(E:Value→Shared→Prop):Cx:={ X with xe:=E }
abbrev Cx.nox (X:Cx):Cx:=X.wish fun _ _=>False
theorem Cx.Ok.wish {X:Cx}(ok:X.Ok)(E:Value→Shared→Prop):(X.wish E).Ok :=
  ⟨ok.mod,ok.kind,ok.glob,ok.blt,ok.above,ok.inj,ok.has,ok.cab,ok.hd,ok.frames,ok.stk,ok.exf,ok.bs,ok.bsz,ok.noex,ok.exfs,ok.funs,ok.frf⟩
theorem Cx.Ok.unwish {X:Cx}{E:Value→Shared→Prop}(ok:(X.wish E).Ok):X.Ok :=
  ⟨ok.mod,ok.kind,ok.glob,ok.blt,ok.above,ok.inj,ok.has,ok.cab,ok.hd,ok.frames,ok.stk,ok.exf,ok.bs,ok.bsz,ok.noex,ok.exfs,ok.funs,ok.frf⟩
section
variable {X:Cx}{pins:List (Addr × Obj)}{σ:St}{H:Hp}{s:Shared}{E:Value→Shared→Prop}
theorem Inv.wish (I:Inv X pins σ H s)(E:Value→Shared→Prop):Inv (X.wish E) pins σ H s:=⟨I.ok.wish E,I.os,I.bare,I.base,I.loc,I.cell,I.free,I.freeC,I.pin,I.hok,I.len⟩
theorem Inv.unwish (I:Inv (X.wish E) pins σ H s):Inv X pins σ H s:=⟨I.ok.unwish,I.os,I.bare,I.base,I.loc,I.cell,I.free,I.freeC,I.pin,I.hok,I.len⟩
theorem SP.unwish {D:Ends}{f:Flow}{s':Shared}(h:SP (X.wish E) pins D f s'):SP X pins D f s':=by
  cases f with
  | next=>obtain ⟨σ',H',I,q⟩:=h;exact ⟨σ',H',I.unwish,q⟩
  | brk=>obtain ⟨σ',H',I,q⟩:=h;exact ⟨σ',H',I.unwish,q⟩
  | cont=>obtain ⟨σ',H',I,q⟩:=h;exact ⟨σ',H',I.unwish,q⟩
  | ret u=>obtain ⟨v,σ',H',I,r,q⟩:=h;exact ⟨v,σ',H',I.unwish,r,q⟩
theorem PSs.nox {st:List Stmt}{t:TS}(h:PSs X.nox st t):PSs X st t:=fun pins s σ H D I hw =>
  wpAny_mono (h pins s σ H D (I.wish _) hw) (fun _ _ q=>q.unwish) fun _ _ z=>False.elim z
end
section
variable {X:Cx}{st:Stmt}{rest:List Stmt}{t u:TS}{e:Expr}{te:TE}{pos:Pos}
def tNext:TS:=fun D σ H=>D.nx σ H
def tSeq (t u:TS):TS:=fun D σ H=>t { D with nx:=u D } σ H
theorem pss_nil:PSs X [] tNext:=fun _ _ σ H _ I h=>wpAny_execs_nil ⟨σ,H,I,h⟩
theorem pss_cons (h1:PS X st t)(h2:PSs X rest u):PSs X (st::rest) (tSeq t u):=by
  intro pins s σ H D I h
  refine wpAny_execs_cons (thn (h1 pins s σ H { D with nx:=u D } I h) fun f s1 q=>?_)
  cases f with
  | next =>
    obtain ⟨σ',H',I',q⟩:=q
    exact h2 pins s1 σ' H' D I' q
  | ret v=>exact q
  | brk=>exact q
  | cont=>exact q
theorem pss_one (h1:PS X st t):PSs X [st] t:=by
  intro pins s σ H D I h
  refine wpAny_execs_cons (thn (h1 pins s σ H D I h) fun f s1 q=>?_)
  cases f with
  | next=>exact wpAny_execs_nil q
  | ret v=>exact q
  | brk=>exact q
  | cont=>exact q
theorem Inv.quiet {pins:List (Addr × Obj)}{σ:St}{H:Hp}{s:Shared}(I:Inv X pins σ H s):interactive X.env=false:=by simp [interactive,I.ok.kind]
def tDrop (te:TE):TS:=fun D σ H=>te σ H fun _ H1=>D.nx σ H1
theorem ps_expr (he:PE X e te)(hs:swapsWith e none pos.line X.env=pure false:=by rfl):PS X (.Expr e pos) (tDrop te):=by
  intro pins s σ H D I h
  exact wpAny_Expr_any (thn (he pins s σ H _ I h) fun v s1 ⟨x,H1,I1,r1,q1⟩=>⟨σ,H1,I1,q1⟩) I.quiet hs
def tRet (te:TE):TS:=fun D σ H=>te σ H D.rt
theorem ps_ret (he:PE X e te):PS X (.Return (some e) pos) (tRet te):=by
  intro pins s σ H D I h
  exact wpAny_Return_some (thn (he pins s σ H _ I h) fun v s1 ⟨x,H1,I1,r1,q1⟩=>⟨x,σ,H1,I1,r1,q1⟩)
def tIfS (c:TT)(t u:TS):TS:=fun D σ H=>c σ H fun b H1=>if b=true then t D σ H1 else u D σ H1
theorem ps_if {c:Expr}{a b:List Stmt}{tc:TT}(hc:PT X c tc)(ha:PSs X a t)(hb:PSs X b u):PS X (.If c a b pos) (tIfS tc t u):=by
  intro pins s σ H D I h
  refine wpAny_If (thn (hc pins s σ H _ I h) fun d s1 ⟨H1,I1,q1⟩=>?_)
  cases d with
  | true=>exact ha pins s1 σ H1 D I1 q1
  | false=>exact hb pins s1 σ H1 D I1 q1
end
abbrev TG:=V→St→Hp→(St→Hp→Prop)→Prop
def PG (X:Cx) (target:Expr) (t:TG):Prop :=
  ∀ (pins:List (Addr × Obj)) (s:Shared) (σ:St) (H:Hp) (v:V) (u:Value) (Q:St→Hp→Prop),Inv X pins σ H s→RelV v u→t v σ H Q →
    wpAny (model X.prog X.w) X.A (assign target X.env u) (fun _ s'=>∃ σ' H',Inv X pins σ' H' s'∧Q σ' H') X.xe s
section
variable {X:Cx}{pos:Pos}
def gName (i:Nat):TG:=fun v σ H Q=>Q (σ.set i (some v)) H
theorem pg_name {i:Nat}{x:Str}(hN:X.N.Nodup)(hi:X.N[i]?=some x)(hx:Loc X.env.scope x)(hf:X.fn x=true∨X.env.scope.names.lookup x=some .local:=by first | exact .inl rfl | exact .inr rfl | assumption):PG X (.Name x pos) (gName i):=by
  intro pins s σ H v u Q I r h
  exact wpAny_assign_Name (store_ok I hN hi hx r (fun s' I'=>⟨_,H,I',h⟩) hf)
def tAsg (te:TE)(g:TG):TS:=fun D σ H=>te σ H fun x H1=>g x σ H1 D.nx
theorem ps_set {i:Nat}{x:Str}{e:Expr}{te:TE}{pos':Pos}(hN:X.N.Nodup)(hi:X.N[i]?=some x)(hx:Loc X.env.scope x)(he:PE X e te)(hs:swapsWith e (some (.Name x pos')) pos.line X.env=pure false:=by rfl)(hf:X.fn x=true∨X.env.scope.names.lookup x=some .local:=by first | exact .inl rfl | exact .inr rfl | assumption) :
    PS X (.Assign [.Name x pos'] e pos) (tAsg te (gName i)):=by
  intro pins s σ H D I h
  refine wpAny_Assign_Name (thn (he pins s σ H _ I h) fun v s1 ⟨y,H1,I1,r1,q1⟩=>?_) hs
  exact store_ok I1 hN hi hx r1 (fun s2 I2=>⟨_,H1,I2,q1⟩) hf
end
section
variable {X:Cx}{pos:Pos}
end
structure It where
  go:Nat→Hp→Prop
  yld:Nat→Hp→V→Hp→Prop
  stop:Nat→Hp→Prop
def FpOk (X:Cx)(pins:List (Addr × Obj))(H:Hp)(b:Addr):Prop :=
  H b=none∧b≠X.env.locals∧b∉X.fs∧(b∈X.ex∨X.s₀.heap.objs.size≤b)∧(∀ x c,X.env.cells.lookup x=some c→c≠b)∧∀ p∈X.pn++pins,p.1≠b
theorem Inv.fpOk {X:Cx}{pins:List (Addr × Obj)}{σ:St}{H H':Hp}{s:Shared}{b:Addr}(I:Inv X pins σ H s)(hb:s.heap.objs.size≤b)(hn:H' b=none):FpOk X pins H' b:=by
  refine ⟨hn,Nat.ne_of_gt (Nat.lt_of_lt_of_le I.lt hb),I.nofs hb,.inr (Nat.le_trans I.sz hb),fun x c e z=>?_,fun p hp z=>?_⟩
  · obtain ⟨v,q⟩:=I.cell x c e
    exact absurd (Nat.lt_of_lt_of_le q.lt (by rw [z];exact hb)) (Nat.lt_irrefl _)
  · exact absurd (Nat.lt_of_lt_of_le (Heap.lt_size (I.pin p hp).1) (by rw [z];exact hb)) (Nat.lt_irrefl _)
structure Turn (P:Program)(w:World)(K:PySem.W.Frag)(tg:Expr)(J:It)(fp:List Addr)(it:Addr)(tn:Nat→Heap→Prop):Prop where
  mem:it∈fp
  obj:∀ i h,tn i h→∀ b∈fp,∃ o,h.get? b=some o∧∀ v,o.data≠.cell v
  keep:∀ i h h',tn i h→(∀ b∈fp,∀ o,h.get? b=some o→h'.get? b=some o)→tn i h'
  item:∀ (X:Cx),X.prog=P→X.w=w→X.K=K→X.calm=true→∀ (i:Nat) (pins:List (Addr × Obj)) (s:Shared) (σ:St) (H:Hp) (E:Value→Shared→Prop),Inv X pins σ H s→(∀ b∈fp,FpOk X pins H b)→tn i s.heap→J.go i H →
    wpAny (model P w) X.A (pyNext (.ref it)) (fun r s1=>∃ u,r=some u ∧
      wpAny (model P w) X.A (letOwnedTupleGo tg (.ref it) u) (fun _ s2=>∃ x H',Inv X pins σ H' s2∧RelV x u∧J.yld i H x H'∧tn (i+1) s2.heap∧∀ b∈fp,H' b=none) E s1) E s
  done:∀ (X:Cx),X.prog=P→X.w=w→X.K=K→X.calm=true→∀ (i:Nat) (pins:List (Addr × Obj)) (s:Shared) (σ:St) (H:Hp) (E:Value→Shared→Prop),Inv X pins σ H s→(∀ b∈fp,FpOk X pins H b)→tn i s.heap→J.stop i H →
    wpAny (model P w) X.A (pyNext (.ref it)) (fun r s1=>r=none∧Inv X pins σ H s1) E s
  self:∀ (A:Around) (i:Nat) (s:Shared) (Q:Value→Shared→Prop) (E:Value→Shared→Prop),tn i s.heap→Q (.ref it) s→wpAny (model P w) A (pyIter (.ref it)) Q E s
abbrev TI:=St→Hp→(It→Hp→Prop)→Prop
def PIE (X:Cx)(pins:List (Addr × Obj))(σ:St)(tg:Expr)(R:It→Hp→Prop)(itv:Value)(s2:Shared):Prop :=
  ∃ (it:Addr) (fp:List Addr) (tn:Nat→Heap→Prop) (J:It) (H':Hp),itv=.ref it∧Inv X pins σ H' s2∧Turn X.prog X.w X.K tg J fp it tn∧tn 0 s2.heap∧(∀ b∈fp,FpOk X pins H' b)∧R J H'
def PI (X:Cx) (tg iter:Expr) (wi:TI):Prop :=
  ∀ (pins:List (Addr × Obj)) (s:Shared) (σ:St) (H:Hp) (R:It→Hp→Prop),Inv X pins σ H s→wi σ H R →
    wpAny (model X.prog X.w) X.A (eval iter X.env) (fun v s1=>wpAny (model X.prog X.w) X.A (pyIter v) (PIE X pins σ tg R) X.xe s1) X.xe s
theorem go_of {M:Model} {A:Around} {E:Value→Shared→Prop} {s:Shared} {tg:Expr} {it:Addr} {u:Value} {o:Obj} {n:String} {vs:Array Value} {Q:Unit→Shared→Prop} (ho:s.heap.get? it=some o) (hc:o.cls=.type n) (hd:o.data=.fields vs)
    (hn:["enumerate","zip","dict_itemiterator","dict_reverseitemiterator","odict_iterator","itertools.zip_longest","itertools.pairwise"].contains n=false) (hQ:Q () s):wpAny M A (letOwnedTupleGo tg (.ref it) u) Q E s:=by
  unfold letOwnedTupleGo
  cases tg <;> first
    | exact wpAny_pure hQ
    | (cases u<;>first
        | exact wpAny_pure hQ
        | (refine wpAny_bind (wpAny_load ho ?_)
           rw [hc,hd]
           show wpAny M A (if (["enumerate","zip","dict_itemiterator","dict_reverseitemiterator","odict_iterator","itertools.zip_longest","itertools.pairwise"].contains n&&vs[0]?==some (rawInt _))=true then _ else _) Q E s
           rw [if_neg (by intro h;rw [hn,Bool.false_and] at h;cases h)]
           exact wpAny_pure hQ))
def Itr (lo:Int)(n:Nat):It:=⟨fun i _=>i<n,fun i H x H'=>H'=H∧x=.int (lo+i),fun i _=>n≤i⟩
theorem turn_range {P:Program}{w:World}{K:PySem.W.Frag}{tg:Expr}(it:Addr)(lo:Int)(n:Nat):Turn P w K tg (Itr lo n) [it] it (fun i h=>IsRangeIter h it (lo+(i:Nat)*1) ((n:Int)-(i:Nat)) 1) where
  mem:=by simp
  obj := fun i h st b hb=>by
    have e:b=it:=by simpa using hb
    subst e
    exact ⟨_,st,fun v z=>by
      have z':Data.fields _=Data.cell v:=z
      cases z'⟩
  keep:=fun i h h' st k=>k it (by simp) _ st
  item:=by
    intro X hP hw hK hc i pins s σ H E I hf st hg
    subst hP hw hK
    obtain ⟨f0,f1,f2,f3,f4,f5⟩:=hf it (by simp)
    have W:=Walks.range (prog:=X.prog) (w:=X.w) (I.ok.hd hc) it lo 1 n
    refine W.item i s _ _ hg st fun v h' tk hv st' kk=>?_
    obtain ⟨t,rfl⟩:=hv
    have I1:Inv X pins σ H { s with heap:=h',toks:=tk }:=I.turned (fun b o hb e=>kk b o (by simpa using hb) e) f0 f1 f3 f4 f5
    refine ⟨_,rfl,go_of (s:={ s with heap:=h',toks:=tk }) (n:="range_iterator") st' rfl rfl (by decide) ⟨.int (lo+i),H,I1,⟨t,?_⟩,⟨rfl,rfl⟩,st',fun b hb=>(hf b hb).1⟩⟩
    rw [Int.mul_one]
  done:=by
    intro X hP hw hK hc i pins s σ H E I hf st hg
    subst hP hw hK
    obtain ⟨f0,f1,f2,f3,f4,f5⟩:=hf it (by simp)
    exact wpAny_pyNext_range_end (I.ok.hd hc) st (by have:n≤i:=hg;omega) fun h' eb=>⟨rfl,I.turned (t':=s.toks) (fun b o hb e=>eb b o hb e) f0 f1 f3 f4 f5⟩
  self:=fun _ _ _ _ _ st h=>wpAny_pyIter_rangeiter st h
end L2
namespace L2
open PySem PySem.Spec PyProof.Rows
section
variable {X:Cx}{tg:Expr}
theorem range_it {pins:List (Addr × Obj)}{σ:St}{H:Hp}{s:Shared}{R:It→Hp→Prop}{E:Value→Shared→Prop}{lo hi:Int}{t u v:Tok}{tk:Nat}(I:Inv X pins σ H s)(h1:-(2^62)≤lo)(h2:lo<2^62)(h3:-(2^62)≤hi)(h4:hi<2^62)
    (q:R (Itr lo (hi-lo).toNat) H):wpAny (model X.prog X.w) X.A (pyIter (.ref s.heap.objs.size)) (PIE X pins σ tg R) E { s with heap:=s.heap.push { cls:=.type "range",data:=.fields #[.int lo t,.int hi u,.int 1 v] },toks:=tk }:=by
  refine wpAny_pyIter_range (IsRange.new ..) (small_one h1 h2 h3 h4) ?_
  have I1:Inv X pins σ H { s with heap:=s.heap.push { cls:=.type "range",data:=.fields #[.int lo t,.int hi u,.int 1 v] },toks:=tk }:=I.kept fun b o e=>Heap.get?_push_of_some _ e
  refine ⟨(s.heap.push { cls:=.type "range",data:=.fields #[.int lo t,.int hi u,.int 1 v] }).objs.size,[(s.heap.push { cls:=.type "range",data:=.fields #[.int lo t,.int hi u,.int 1 v] }).objs.size],_,_,H,rfl,
    I1.kept (t':=tk) fun b o e=>Heap.get?_push_of_some _ e,turn_range _ lo (hi-lo).toNat,?_,fun b hb=>?_,q⟩
  · have e1:lo+((0:Nat):Int)*1=lo:=by simp
    have e2:(((hi-lo).toNat:Nat):Int)-((0:Nat):Int)=Builtin.Range.rangeSize lo hi 1:=by rw [rangeSize_one];split<;>omega
    show IsRangeIter _ _ (lo+((0:Nat):Int)*1) ((((hi-lo).toNat:Nat):Int)-((0:Nat):Int)) 1
    rw [e1,e2]
    exact Heap.get?_push_size _ rfl
  · have e:b=(s.heap.push { cls:=.type "range",data:=.fields #[.int lo t,.int hi u,.int 1 v] }).objs.size:=by simpa using hb
    subst e
    exact I1.fpOk (Nat.le_refl _) (I1.hok.fresh (Nat.le_refl _))
def iRng1 (ta:TA):TI:=fun σ H R=>ta σ H fun vs H1=>∃ j:Int,vs=[.int j]∧-(2^62)≤j∧j<2^62∧R (Itr 0 j.toNat) H1
theorem pi_range1 {a:Expr}{ta:TA}{p pos:Pos}(hg:Gl X "range")(hm:X.mg "range"=none)(ha:PA X [a] ta)(hs:starEach [a] X.env=[(false,eval a X.env)]:=by rfl):PI X tg (.Call (.Name "range" p) [a] [] pos) (iRng1 ta):=by
  intro pins s σ H R I h
  refine Call_ (ld_blt I hg hm boot_range (PyProof.Rows.callWith_type1 (thn (ha pos pins s σ H _ I h) fun us s1 ⟨vs,H1,I1,r1,q1⟩=>?_) hs rfl))
  obtain ⟨j,e,q1,q2,q⟩:=q1
  subst e
  cases r1 with
  | cons r rr =>
    cases rr
    obtain ⟨t,rfl⟩:=r
    exact call_range_1 (range_it I1 (by omega) (by omega) q1 q2 (by simpa using q))
def tFor (wi:TI)(g:TG)(tb:TS):TS:=fun D σ H=>wi σ H fun J H1=>∃ W:Nat→Nat→St→Hp→Prop,(∃ m,W 0 m σ H1)∧∀ i m σ H,W i m σ H →
  (J.stop i H∧D.nx σ H)∨(J.go i H∧∃ N:St→Hp→Prop,(∀ σ' H',N σ' H'→∃ m',m'<m∧W (i+1) m' σ' H')∧∀ x H',J.yld i H x H'→g x σ H' fun σ2 H2=>tb { D with nx:=N,ct:=N,bk:=D.nx } σ2 H2)
def pinsAt (fp:List Addr)(h:Heap):List (Addr × Obj):=fp.filterMap fun b=>(h.get? b).map fun o=>(b,o)
theorem mem_pinsAt {fp:List Addr}{h:Heap}{b:Addr}{o:Obj}(hb:b∈fp)(e:h.get? b=some o):(b,o)∈pinsAt fp h:=List.mem_filterMap.mpr ⟨b,hb,by rw [e];rfl⟩
theorem of_pinsAt {fp:List Addr}{h:Heap}{p:Addr × Obj}(hp:p∈pinsAt fp h):p.1∈fp∧h.get? p.1=some p.2:=by
  obtain ⟨b,hb,e⟩:=List.mem_filterMap.mp hp
  cases q:h.get? b with
  | none=>rw [q] at e;cases e
  | some o =>
    rw [q] at e
    have e':(b,o)=p:=Option.some.inj e
    subst e'
    exact ⟨hb,q⟩
theorem Inv.pinned {pins:List (Addr × Obj)}{σ:St}{H:Hp}{s:Shared}{fp:List Addr}(I:Inv X pins σ H s)(hf:∀ b∈fp,FpOk X pins H b)(ho:∀ b∈fp,∃ o,s.heap.get? b=some o∧∀ v,o.data≠.cell v):Inv X (pins++pinsAt fp s.heap) σ H s :=
  I.pins_of fun p hp=>(List.mem_append.mp hp).elim (fun z=>I.pin p (List.mem_append_right _ z)) fun z=>by
    obtain ⟨hb,e⟩:=of_pinsAt z
    obtain ⟨f0,f1,f2,_⟩:=hf p.1 hb
    obtain ⟨o,e',d⟩:=ho p.1 hb
    rw [e] at e';cases e'
    exact ⟨e,f0,f1,f2,d⟩
theorem Inv.unpinned {pins pl:List (Addr × Obj)}{σ:St}{H:Hp}{s:Shared}(I:Inv X (pins++pl) σ H s):Inv X pins σ H s:=I.pins_of fun p hp=>I.pin p (List.mem_append_right _ (List.mem_append_left _ hp))
theorem ps_for {iter:Expr}{body:List Stmt}{wi:TI}{g:TG}{tb:TS}{pos:Pos}(hp:PassesOwn (model X.prog X.w) X.A X.env X.xe)(hc:X.calm=true)(hi:PI X tg iter wi)(hg:PG X tg g)(hb:PSs X body tb)
    (hs:∀ x,foldedSetIterable iter X.env x=pure x:=by intro _;rfl):PS X (.For tg iter body [] pos) (tFor wi g tb):=by
  intro pins s σ H D I h
  refine wpAny_For (thn (hi pins s σ H _ I h) fun v s1 h1=>thn h1 fun itv s2 h2=>?_) hs
  obtain ⟨it,fp,tn,J,H2,e,I2,T,st2,f2,W,⟨m0,w0⟩,turn⟩:=h2
  subst e
  have stat:∀ {H':Hp},(∀ b∈fp,H' b=none)→∀ b∈fp,FpOk X pins H' b:=fun hn b hb=>⟨hn b hb,(f2 b hb).2⟩
  refine codeAny_forLoop_any (fun n s'=>∃ i σ' H',Inv X pins σ' H' s'∧tn i s'.heap∧(∀ b∈fp,H' b=none)∧W i n σ' H') ?_ m0 ⟨0,σ,H2,I2,st2,fun b hb=>(f2 b hb).1,w0⟩
  rintro n s3 ⟨i,σ3,H3,I3,st3,fr3,w3⟩
  rcases turn i n σ3 H3 w3 with ⟨stop,qn⟩ | ⟨go,N,hN,step⟩
  · refine wpAny_passesOwn hp (thn (T.done X rfl rfl rfl hc i pins s3 σ3 H3 X.xe I3 (stat fr3) st3 stop) fun r s4 ⟨hr,I4⟩=>?_)
    subst hr
    exact wpAny_execs_nil ⟨σ3,H3,I4,qn⟩
  · refine wpAny_passesOwn hp (thn (T.item X rfl rfl rfl hc i pins s3 σ3 H3 X.xe I3 (stat fr3) st3 go) fun r s4 ⟨u,hr,h4⟩=>?_)
    subst hr
    refine wpAny_passesOwn hp (thn h4 fun _ s5 ⟨x,H5,I5,r5,y5,st5,fr5⟩=>?_)
    have I5':=I5.pinned (stat fr5) (T.obj _ _ st5)
    refine wpAny_passesOwn hp (thn (hg _ s5 σ3 H5 x u _ I5' r5 (step x H5 y5)) fun _ s6 ⟨σ6,H6,I6,q6⟩=>?_)
    refine wpAny_passesOwn hp (thn (hb _ s6 σ6 H6 _ I6 q6) fun f s7 q7=>?_)
    have again:∀ {σ7:St} {H7:Hp},Inv X (pins++pinsAt fp s5.heap) σ7 H7 s7→N σ7 H7→∃ m,m<n∧∃ i σ' H',Inv X pins σ' H' s7∧tn i s7.heap∧(∀ b∈fp,H' b=none)∧W i m σ' H':=fun {σ7 H7} I7 n7=>by
      obtain ⟨m',hm,w7⟩:=hN σ7 H7 n7
      refine ⟨m',hm,i+1,σ7,H7,I7.unpinned,T.keep _ _ _ st5 fun b hb o e=>(I7.pin (b,o) (List.mem_append_right _ (List.mem_append_right _ (mem_pinsAt hb e)))).1,fun b hb=>?_,w7⟩
      obtain ⟨o,e,d⟩:=T.obj _ _ st5 b hb
      exact (I7.pin (b,o) (List.mem_append_right _ (List.mem_append_right _ (mem_pinsAt hb e)))).2.1
    cases f with
    | next=>obtain ⟨σ7,H7,I7,n7⟩:=q7;exact again I7 n7
    | cont=>obtain ⟨σ7,H7,I7,n7⟩:=q7;exact again I7 n7
    | brk=>obtain ⟨σ7,H7,I7,q7⟩:=q7;exact ⟨σ7,H7,I7.unpinned,q7⟩
    | ret v=>obtain ⟨x7,σ7,H7,I7,r7,q7⟩:=q7;exact ⟨x7,σ7,H7,I7.unpinned,r7,q7⟩
end
theorem for_range {lo:Int}{n:Nat}{g:TG}{tb:TS}{D:Ends}{σ:St}{H:Hp}(Pv:Nat→St→Hp→Prop)(h0:Pv 0 σ H)
    (hs:∀ i σ H,i<n→Pv i σ H→g (.int (lo+i)) σ H fun σ2 H2=>tb { D with nx:=Pv (i+1),ct:=Pv (i+1),bk:=D.nx } σ2 H2) (hd:∀ σ H,Pv n σ H→D.nx σ H) :
    ∃ W:Nat→Nat→St→Hp→Prop,(∃ m,W 0 m σ H)∧∀ i m σ H,W i m σ H →
      ((Itr lo n).stop i H∧D.nx σ H)∨((Itr lo n).go i H∧∃ N:St→Hp→Prop,(∀ σ' H',N σ' H'→∃ m',m'<m∧W (i+1) m' σ' H')∧∀ x H',(Itr lo n).yld i H x H'→g x σ H' fun σ2 H2=>tb { D with nx:=N,ct:=N,bk:=D.nx } σ2 H2):=by
  refine ⟨fun i m σ H=>m=n-i∧i≤n∧Pv i σ H,⟨n,by simp,Nat.zero_le _,h0⟩,?_⟩
  rintro i m σ H ⟨rfl,hi,p⟩
  by_cases hlt:i<n
  · refine .inr ⟨hlt,Pv (i+1),fun σ' H' p'=>⟨n-(i+1),by omega,rfl,hlt,p'⟩,fun x H' y=>?_⟩
    obtain ⟨e,y⟩:=y
    subst e y
    exact hs i σ _ hlt p
  · have e:i=n:=by omega
    subst e
    exact .inl ⟨Nat.le_refl _,hd σ H p⟩
end L2
namespace L2
open PySem PySem.Spec PyProof.Rows
abbrev R2:=V→V→Hp→VK→Prop
def OpR (X:Cx) (f:Value→Value→Sem Value) (r:R2):Prop :=
  ∀ (pins:List (Addr × Obj)) (s:Shared) (σ:St) (H:Hp) (x y:V) (v u:Value) (Q:VK),Inv X pins σ H s→RelV x v→RelV y u→r x y H Q →
    wpAny (model X.prog X.w) X.A (f v u) (EP X pins σ Q) X.xe s
def CallR (X:Cx) (f:Value) (r:List V→Hp→VK→Prop):Prop :=
  ∀ (pins:List (Addr × Obj)) (s:Shared) (σ:St) (H:Hp) (xs:List V) (us:List Value) (Q:VK),Inv X pins σ H s→Vals xs us→r xs H Q →
    wpAny (model X.prog X.w) X.A (call f us) (EP X pins σ Q) X.xe s
def tOp (r:R2)(ta tb:TE):TE:=fun σ H Q=>ta σ H fun x H1=>tb σ H1 fun y H2=>r x y H2 Q
def rI (C:Int→Int→Prop)(g:Int→Int→V):R2:=fun x y H Q=>∃ i j,x=.int i∧y=.int j∧C i j∧Q (g i j) H
def rI0 (g:Int→Int→V):R2:=fun x y H Q=>∃ i j,x=.int i∧y=.int j∧Q (g i j) H
section
variable {X:Cx}{a b c:Expr}{ta tb tc:TE}{pos:Pos}
theorem binT (ha:PE X a ta)(hb:PE X b tb){pins:List (Addr × Obj)}{s:Shared}{σ:St}{H:Hp}{R:V→V→Hp→Prop}(I:Inv X pins σ H s)
    (h:ta σ H fun x H1=>tb σ H1 fun y H2=>R x y H2) {Q:Value→Shared→Prop} {f:Value→Value→Sem Value}
    (hf:∀ v u s2 x y H2,Inv X pins σ H2 s2→RelV x v→RelV y u→R x y H2→wpAny (model X.prog X.w) X.A (f v u) Q X.xe s2) :
    wpAny (model X.prog X.w) X.A (eval a X.env) (fun v s₁=>wpAny (model X.prog X.w) X.A (eval b X.env) (fun u s₂=>wpAny (model X.prog X.w) X.A (f v u) Q X.xe s₂) X.xe s₁) X.xe s:=by
  refine thn (ha pins s σ H _ I h) fun v s1 ⟨x,H1,I1,r1,q1⟩=>?_
  refine thn (hb pins s1 σ H1 _ I1 q1) fun u s2 ⟨y,H2,I2,r2,q2⟩=>?_
  exact hf v u s2 x y H2 I2 r1 r2 q2
theorem pe_op {op:Operator}{r:R2}(ho:OpR X (binaryOp op) r)(ha:PE X a ta)(hb:PE X b tb):PE X (.BinOp a op b pos) (tOp r ta tb):=by
  intro pins s σ H Q I h
  exact wpAny_BinOp (binT ha hb I h fun v u s2 x y H2 I2 rx ry q=>ho pins s2 σ H2 x y v u Q I2 rx ry q)
theorem opI {f:Value→Value→Sem Value}{C:Int→Int→Prop}{g:Int→Int→Int}
    (rule:∀ (i j:Int) (t u:Tok) (s:Shared) (Q:Value→Shared→Prop) (E:Value→Shared→Prop),C i j→Q (.int (g i j) s.toks) { s with toks:=s.toks+1 }→wpAny (model X.prog X.w) X.A (f (.int i t) (.int j u)) Q E s) :
    OpR X f (rI C fun i j=>.int (g i j)):=by
  intro pins s σ H x y v u Q I rx ry h
  obtain ⟨i,j,rfl,rfl,hc,q⟩:=h
  obtain ⟨t,rfl⟩:=rx
  obtain ⟨t',rfl⟩:=ry
  exact rule i j t t' s _ _ hc ⟨.int (g i j),H,I.tok _,⟨_,rfl⟩,q⟩
theorem opI0 {f:Value→Value→Sem Value}{g:Int→Int→Int}
    (rule:∀ (i j:Int) (t u:Tok) (s:Shared) (Q:Value→Shared→Prop) (E:Value→Shared→Prop),Q (.int (g i j) s.toks) { s with toks:=s.toks+1 }→wpAny (model X.prog X.w) X.A (f (.int i t) (.int j u)) Q E s) :
    OpR X f (rI0 fun i j=>.int (g i j)):=by
  intro pins s σ H x y v u Q I rx ry h
  obtain ⟨i,j,rfl,rfl,q⟩:=h
  obtain ⟨t,rfl⟩:=rx
  obtain ⟨t',rfl⟩:=ry
  exact rule i j t t' s _ _ ⟨.int (g i j),H,I.tok _,⟨_,rfl⟩,q⟩
theorem opB0 {f:Value→Value→Sem Value}{g:Int→Int→Bool}
    (rule:∀ (i j:Int) (t u:Tok) (s:Shared) (Q:Value→Shared→Prop) (E:Value→Shared→Prop),Q (.bool (g i j)) s→wpAny (model X.prog X.w) X.A (f (.int i t) (.int j u)) Q E s) :
    OpR X f (rI0 fun i j=>.bl (g i j)):=by
  intro pins s σ H x y v u Q I rx ry h
  obtain ⟨i,j,rfl,rfl,q⟩:=h
  obtain ⟨t,rfl⟩:=rx
  obtain ⟨t',rfl⟩:=ry
  exact rule i j t t' s _ _ ⟨.bl (g i j),H,I,rfl,q⟩
def CDiv (i j:Int):Prop:=0<j∧j<1073741824
def CPow (i j:Int):Prop:=0≤j∧j≤1000000∧i.natAbs<2^64
def CMul (i j:Int):Prop:=(-(2^64)<i∧i<2^64)∨(-(2^64)<j∧j<2^64)
theorem CMul.ok {i j:Int}(h:CMul i j):IntMulOk i j:=by
  rcases h with ⟨h1,h2⟩ | ⟨h1,h2⟩
  · exact .of_left (intBits_le_64 h1 h2)
  · exact .of_right (intBits_le_64 h1 h2)
theorem op_add:OpR X (binaryOp .Add) (rI0 fun i j=>.int (i+j)):=opI0 fun _ _ _ _ _ _ _ q=>add_int q
theorem op_mul:OpR X (binaryOp .Mult) (rI CMul fun i j=>.int (i*j)):=opI fun _ _ _ _ _ _ _ hc q=>mul_int q hc.ok
theorem op_mod:OpR X (binaryOp .Mod) (rI (fun _ j=>0<j) fun i j=>.int (i%j)):=opI fun i j _ _ _ _ _ hc q=>by
  have h1:(0:Int)<j:=hc
  exact mod_int' (by omega) (by rw [Int.fmod_eq_emod_of_nonneg i (by omega)];exact q)
theorem op_pow:OpR X (binaryOp .Pow) (rI CPow fun i j=>.int (i^j.toNat)):=opI fun _ _ _ _ _ _ _ hc q=>pow_int_small hc.1 hc.2.1 hc.2.2 q
end
def scal:V→V→Bool
  | .non,.non=>true | .non,.int _=>true | .int _,.non=>true | .non,.bl _=>true | .bl _,.non=>true | .non,.str _=>true | .str _,.non=>true
  | .int _,.int _=>true | .bl _,.bl _=>true | .str _,.str _=>true | .byt _,.byt _=>true
  | .int _,.str _=>true | .str _,.int _=>true | .bl _,.str _=>true | .str _,.bl _=>true
  | _,_=>false
def rEq:R2:=fun x y H Q=>scal x y=true∧Q (.bl (decide (x=y))) H
def rNe:R2:=fun x y H Q=>scal x y=true∧Q (.bl (!decide (x=y))) H
theorem dec_int {i j:Int}:decide (V.int i=V.int j)=(i==j):=by
  rw [Bool.eq_iff_iff]
  simp
theorem dec_bl {i j:Bool}:decide (V.bl i=V.bl j)=(i==j):=by
  rw [Bool.eq_iff_iff]
  simp
theorem dec_str {i j:Str}:decide (V.str i=V.str j)=(i==j):=by
  rw [Bool.eq_iff_iff]
  simp
theorem dec_byt {i j:Array UInt8}:decide (V.byt i=V.byt j)=(i.toList==j.toList):=by
  rw [Bool.eq_iff_iff]
  cases i
  cases j
  simp
section
variable {X:Cx}{a b c:Expr}{ta tb tc:TE}{pos:Pos}
theorem fin_bl {pins:List (Addr × Obj)}{σ:St}{H:Hp}{s:Shared}{Q:VK}{k k':Bool}(I:Inv X pins σ H s)(q:Q (.bl k) H)(e:k=k'):EP X pins σ Q (.bool k') s:=by
  subst e
  exact ⟨.bl k,H,I,rfl,q⟩
theorem op_eq:OpR X (compareOp .Eq) rEq:=by
  intro pins s σ H x y v u Q I rx ry h
  obtain ⟨hs,q⟩:=h
  cases x with
  | non =>
    cases rx
    cases y with
    | non=>cases ry;exact PySem.EqNone.eq_none_none (fin_bl I q (by simp))
    | bl j=>cases ry;exact PySem.EqNone.eq_none_bool (fin_bl I q (by simp))
    | int j=>obtain ⟨t',rfl⟩:=ry;exact PySem.EqNone.eq_none_int (fin_bl I q (by simp))
    | str j=>obtain ⟨t',rfl⟩:=ry;exact PySem.EqNone.eq_none_str (fin_bl I q (by simp))
    | _=>exact absurd (show false=true from hs) Bool.false_ne_true
  | bl i =>
    cases rx
    cases y with
    | non=>cases ry;exact PySem.EqNone.eq_bool_none (fin_bl I q (by simp))
    | bl j=>cases ry;exact eq_bool (fin_bl I q dec_bl)
    | str j=>obtain ⟨t',rfl⟩:=ry;exact PySem.EqMixed.eq_bool_str (fin_bl I q (by simp))
    | _=>exact absurd (show false=true from hs) Bool.false_ne_true
  | int i =>
    obtain ⟨t,rfl⟩:=rx
    cases y with
    | non=>cases ry;exact PySem.EqNone.eq_int_none (fin_bl I q (by simp))
    | int j=>obtain ⟨t',rfl⟩:=ry;exact eq_int (fin_bl I q dec_int)
    | str j=>obtain ⟨t',rfl⟩:=ry;exact PySem.EqMixed.eq_int_str (fin_bl I q (by simp))
    | _=>exact absurd (show false=true from hs) Bool.false_ne_true
  | str i =>
    obtain ⟨t,rfl⟩:=rx
    cases y with
    | non=>cases ry;exact PySem.EqNone.eq_str_none (fin_bl I q (by simp))
    | bl j=>cases ry;exact PySem.EqMixed.eq_str_bool (fin_bl I q (by simp))
    | int j=>obtain ⟨t',rfl⟩:=ry;exact PySem.EqMixed.eq_str_int (fin_bl I q (by simp))
    | str j=>obtain ⟨t',rfl⟩:=ry;exact eq_str (fin_bl I q dec_str)
    | _=>exact absurd (show false=true from hs) Bool.false_ne_true
  | byt i =>
    obtain ⟨t,rfl⟩:=rx
    cases y with
    | byt j=>obtain ⟨t',rfl⟩:=ry;exact PySem.W.eq_bytes (fin_bl I q dec_byt)
    | _=>exact absurd (show false=true from hs) Bool.false_ne_true
  | _=>cases y<;>exact absurd (show false=true from hs) Bool.false_ne_true
theorem op_ne:OpR X (compareOp .NotEq) rNe:=by
  intro pins s σ H x y v u Q I rx ry h
  obtain ⟨hs,q⟩:=h
  cases x with
  | non =>
    cases rx
    cases y with
    | non=>cases ry;exact PySem.EqNone.ne_none_none (fin_bl I q (by simp))
    | bl j=>cases ry;exact PySem.EqNone.ne_none_bool (fin_bl I q (by simp))
    | int j=>obtain ⟨t',rfl⟩:=ry;exact PySem.EqNone.ne_none_int (fin_bl I q (by simp))
    | str j=>obtain ⟨t',rfl⟩:=ry;exact PySem.EqNone.ne_none_str (fin_bl I q (by simp))
    | _=>exact absurd (show false=true from hs) Bool.false_ne_true
  | bl i =>
    cases rx
    cases y with
    | non=>cases ry;exact PySem.EqNone.ne_bool_none (fin_bl I q (by simp))
    | bl j=>cases ry;exact ne_bool (fin_bl I q (congrArg not dec_bl))
    | str j=>obtain ⟨t',rfl⟩:=ry;exact PySem.EqMixed.ne_bool_str (fin_bl I q (by simp))
    | _=>exact absurd (show false=true from hs) Bool.false_ne_true
  | int i =>
    obtain ⟨t,rfl⟩:=rx
    cases y with
    | non=>cases ry;exact PySem.EqNone.ne_int_none (fin_bl I q (by simp))
    | int j=>obtain ⟨t',rfl⟩:=ry;exact ne_int (fin_bl I q (congrArg not dec_int))
    | str j=>obtain ⟨t',rfl⟩:=ry;exact PySem.EqMixed.ne_int_str (fin_bl I q (by simp))
    | _=>exact absurd (show false=true from hs) Bool.false_ne_true
  | str i =>
    obtain ⟨t,rfl⟩:=rx
    cases y with
    | non=>cases ry;exact PySem.EqNone.ne_str_none (fin_bl I q (by simp))
    | bl j=>cases ry;exact PySem.EqMixed.ne_str_bool (fin_bl I q (by simp))
    | int j=>obtain ⟨t',rfl⟩:=ry;exact PySem.EqMixed.ne_str_int (fin_bl I q (by simp))
    | str j=>obtain ⟨t',rfl⟩:=ry;exact ne_str (fin_bl I q (congrArg not dec_str))
    | _=>exact absurd (show false=true from hs) Bool.false_ne_true
  | byt i =>
    obtain ⟨t,rfl⟩:=rx
    cases y with
    | byt j=>obtain ⟨t',rfl⟩:=ry;exact PySem.W.ne_bytes (fin_bl I q (congrArg not dec_byt))
    | _=>exact absurd (show false=true from hs) Bool.false_ne_true
  | _=>cases y<;>exact absurd (show false=true from hs) Bool.false_ne_true
theorem op_lt:OpR X (compareOp .Lt) (rI0 fun i j=>.bl (decide (i<j))):=opB0 fun _ _ _ _ _ _ _ q=>lt_int q
theorem nomark (b:Expr){op:CmpOp}(h:op≠.In:=by decide)(h2:op≠.NotIn:=by decide):behindInMarks op b=false:=by
  have e1:(op==CmpOp.In)=false:=by cases op<;>first | rfl | exact absurd rfl h
  have e2:(op==CmpOp.NotIn)=false:=by cases op<;>first | rfl | exact absurd rfl h2
  cases b<;>simp [behindInMarks,e1,e2]
theorem pe_cmpR {op:CmpOp}{r:R2}(ho:OpR X (compareOp op) r)(ha:PE X a ta)(hb:PE X b tb)(hm:behindInMarks op b=false):PE X (.Compare a [op] [b] pos) (tOp r ta tb):=by
  intro pins s σ H Q I h
  exact wpAny_Compare1 (binT ha hb I h fun v u s2 x y H2 I2 rx ry q=>ho pins s2 σ H2 x y v u Q I2 rx ry q) hm
def tTest (t:TE):TT:=fun σ H Q=>t σ H fun x H'=>∃ k,x=.bl k∧Q k H'
theorem pt_cmpR {op:CmpOp}{r:R2}(ho:OpR X (compareOp op) r)(ha:PE X a ta)(hb:PE X b tb)(hm:behindInMarks op b=false):PT X (.Compare a [op] [b] pos) (tTest (tOp r ta tb)):=by
  intro pins s σ H Q I h
  refine wpAny_isTrue_Compare1 (thn (ha pins s σ H _ I h) fun v s1 ⟨x,H1,I1,r1,q1⟩=>thn (hb pins s1 σ H1 _ I1 q1) fun u s2 ⟨y,H2,I2,r2,q2⟩ =>
    thn (ho pins s2 σ H2 x y v u _ I2 r1 r2 q2) fun c s3 ⟨z,H3,I3,r3,k,e,q3⟩=>?_) hm
  subst e
  cases r3
  exact wpAny_truthy_bool ⟨H3,I3,q3⟩
theorem line63:(sizeLine:Nat)<2^63:=by rw [sizeLine_eq];decide
theorem vals1 {x:V}{us:List Value}(r:Vals [x] us):∃ u,us=[u]∧RelV x u:=by
  cases r with
  | cons r1 r2=>cases r2;exact ⟨_,rfl,r1⟩
end
end L2
namespace L2
open PySem PySem.Spec PyProof.Rows
structure ObjM (h:Heap)(x dx C:Addr)(mA:Str→Option Value):Prop where
  obj:h.get? x=some (PySem.W.instObj C dx)
  ns:h.Ns1 dx mA
  ne:dx≠x
theorem lookIn_ns {h:Heap}{dx:Addr}{mA:Str→Option Value}(n:h.Ns1 dx mA):∃ od,h.get? dx=some od∧∀ name,PySem.W.lookIn name od=some (mA name):=by
  obtain ⟨o,es,ep,ho,hd,hk,_,hm⟩:=n
  refine ⟨o,ho,fun name=>?_⟩
  have e:=hm name
  unfold nsFind findBy at e
  rw [← Array.find?_toList] at e
  unfold PySem.W.lookIn
  rw [hd]
  dsimp only
  split
  · rename_i y q
    rw [q] at e
    exact congrArg some e
  · rename_i q
    rw [q] at e
    have a:es.toList.any (·.refKey)=false:=by
      rw [List.any_eq_false]
      intro y hy
      obtain ⟨z,t,hkey⟩:=hk y (Array.mem_toList_iff.mp hy)
      simp [DictEntry.refKey,hkey]
    have a':¬ es.toList.any (·.refKey)=true:=by rw [a];exact Bool.false_ne_true
    rw [if_neg a']
    exact congrArg some e
theorem ObjM.look {h:Heap}{x dx C:Addr}{mA:Str→Option Value}(I:ObjM h x dx C mA):∃ od,PySem.W.InstAt h x (PySem.W.instObj C dx) C (some od)∧∀ name,PySem.W.lookIn name od=some (mA name) :=
  let ⟨od,ho,hl⟩:=lookIn_ns I.ns
  ⟨od,⟨I.obj,rfl,rfl,ho⟩,hl⟩
section
variable {prog:Program}{w:World}{A:Around}{E:Value→Shared→Prop}{s:Shared}{K:PySem.W.Frag}{x dx C f:Addr}{mA:Str→Option Value}{name:Str}{v:Value}
end
theorem RelO.some_of {v:V}{o:Option Value}(r:RelO (some v) o):∃ u,o=some u∧RelV v u:=by
  cases o with
  | none=>exact (show False from r).elim
  | some u=>exact ⟨u,rfl,r⟩
theorem handed_of {v:V}{u:Value}(r:RelV v u):PySem.W.handedIn u=true:=by
  cases v with
  | non=>cases (show u=Value.none from r);rfl
  | bl b=>cases (show u=Value.bool b from r);rfl
  | int i=>obtain ⟨t,e⟩:=(show ∃ t,u=Value.int i t from r);cases e;rfl
  | str x=>obtain ⟨t,e⟩:=(show ∃ t,u=Value.str x t from r);cases e;rfl
  | byt b=>obtain ⟨t,e⟩:=(show ∃ t,u=Value.bytes b t from r);cases e;rfl
  | flt b=>obtain ⟨t,e⟩:=(show ∃ t,u=Value.float b t from r);cases e;rfl
  | ref a=>cases (show u=Value.ref a from r);rfl
  | ty n=>cases (show u=Value.type n from r);rfl
section
variable {P:Program}{w:World}{H H':Hp}{h h':Heap}{a C dx:Addr}{fs fs':List (Str × V)}
theorem ins_get (hok:HOk P w H h)(e:H a=some (.ins C dx fs)):∃ mA,ObjM h a dx C mA∧(∀ f,RelO (fs.lookup f) (mA f))∧PySem.Within mA (fs.map (·.1))∧fs.length≤1000∧H dx=some (.own a):=by
  obtain ⟨d,z,ne,ob,mA,n,r,q⟩:=(show ObjOk P w H h a (.ins C dx fs) from hok a _ e)
  exact ⟨mA,⟨ob,n,ne⟩,r,q,z,d⟩
end
structure Cls (K:PySem.W.Frag)(C:Addr):Prop where
  pg:PySem.W.plainGet K C Str.empty=true
  hd:PySem.W.hasDictIn K C=true
  po:PySem.W.plainOver K C=true
  sa:PySem.W.findIn K (.ref C) "__setattr__"=some (some (.builtin "object.__setattr__"))
theorem Cls.get {K:PySem.W.Frag}{C:Addr}(c:Cls K C)(f:Str):PySem.W.plainGet K C f=true:=c.pg
structure Con (K:PySem.W.Frag)(C:Addr)(f:Str)(v:V)(u:Value):Prop where
  at_:PySem.W.findIn K (.ref C) f=some (some u)
  rel:RelV v u
  get:PySem.W.specialIn K u "__get__"=some none
  cp:PySem.W.copiedNames.contains f=false
structure Meth (K:PySem.W.Frag)(C:Addr)(m:Str)(f:Addr):Prop where
  at_:PySem.W.findIn K (.ref C) m=some (some (.ref f))
  fn:PySem.W.isFn K (.ref f)=true
  kp:PySem.W.keepIn K (.ref f)=true
section
variable {X:Cx}{pins:List (Addr × Obj)}{σ:St}{H:Hp}{s:Shared}{a C dx:Addr}{fs:List (Str × V)}{f:Str}{v:V}{A:Around}{E:Value→Shared→Prop}
theorem attr_of {prog:Program}{w:World}{env:Env}{e:Expr}{f:Str}{pos:Pos}{s:Shared}{Q:Value→Shared→Prop}(hb:attributeBase e f env (eval e env)=eval e env)
    (h:wpAny (model prog w) A (eval e env) (fun o s₁=>wpAny (model prog w) A (getAttr o f true) Q E s₁) E s):wpAny (model prog w) A (eval (.Attribute e f pos) env) Q E s :=
  Attribute_any_ h (by rw [arm_eval_Attribute,hb])
end
section
variable {X:Cx}{o e value:Expr}{f:Str}{pos pos' tpos:Pos}{ta tv:TE}
end
section
variable {X:Cx}{pins:List (Addr × Obj)}{σ:St}{H:Hp}{s:Shared}{A:Around}{E:Value→Shared→Prop}{Q:Value→Shared→Prop}{c:Value}{b:Bool}
inductive TyOf (K:PySem.W.Frag) (H:Hp):V→Value→Prop where
  | non:TyOf K H .non (.type "NoneType")
  | bl (x:Bool):TyOf K H (.bl x) (.type "bool")
  | int (i:Int):TyOf K H (.int i) (.type "int")
  | str (x:Str):TyOf K H (.str x) (.type "str")
  | flt (x:UInt64):TyOf K H (.flt x) (.type "float")
  | lst {a:Addr} {xs:List V} (e:H a=some (.lst xs)):TyOf K H (.ref a) (.type "list")
  | frz {a:Addr} {o:Obj} {xs:List V} (e:H a=some (.frz o (.lst xs))):TyOf K H (.ref a) (.type "list")
  | tup {a:Addr} {xs:List V} (e:H a=some (.tup xs)):TyOf K H (.ref a) (.type "tuple")
  | dK {a:Addr} {kvs:List (Key × V)} (e:H a=some (.dK kvs)):TyOf K H (.ref a) (.type "dict")
  | dT {a:Addr} {kvs:List (List Key × V)} (e:H a=some (.dT kvs)):TyOf K H (.ref a) (.type "dict")
  | ins {a C dx:Addr} {fs:List (Str × V)} (e:H a=some (.ins C dx fs)) (cl:Cls K C) (ha:PySem.W.findIn K (.ref C) "__class__"=some (some (.builtin "object.__class__")))
      (hn:PySem.W.specialIn K (.builtin "object.__class__") "__get__"=some (some (.builtin "getset_descriptor.__get__"))) (htk:PySem.W.takesIn K (.builtin "object.__class__")=some true)
      (hm:PySem.W.mroIn K C (.type "object")=some true):TyOf K H (.ref a) (.ref C)
theorem isinst_ok {x:V}{u t:Value}(I:Inv X pins σ H s)(rx:RelV x u)(ty:TyOf X.K H x t)(e:PySem.W.kitOne X.K t c=some b)(h:∀ tk,Q (.bool b) { s with toks:=tk }) :
    wpAny (model X.prog X.w) A (call (.builtin "isinstance") [u,c]) Q E s:=by
  cases ty with
  | non=>cases (show u=Value.none from rx);exact PySem.W.kia_one PySem.W.kitx_none I.kIn True.intro e (fun z=>nomatch z) h
  | bl y=>cases (show u=Value.bool y from rx);exact PySem.W.kia_one PySem.W.kitx_bool I.kIn True.intro e (fun z=>nomatch z) h
  | int i=>obtain ⟨t,q⟩:=(show ∃ t,u=Value.int i t from rx);cases q;exact PySem.W.kia_one PySem.W.kitx_int I.kIn True.intro e (fun z=>nomatch z) h
  | str y=>obtain ⟨t,q⟩:=(show ∃ t,u=Value.str y t from rx);cases q;exact PySem.W.kia_one PySem.W.kitx_str I.kIn True.intro e (fun z=>nomatch z) h
  | flt y=>obtain ⟨t,q⟩:=(show ∃ t,u=Value.float y t from rx);cases q;exact PySem.W.kia_one PySem.W.kitx_float I.kIn True.intro e (fun z=>nomatch z) h
  | @lst a xs ea =>
    cases (show u=Value.ref a from rx)
    obtain ⟨_,_,n,_,h1⟩:=(show ObjOk X.prog X.w H s.heap a (.lst xs) from I.hok a _ ea)
    exact PySem.W.kia_one PySem.W.kitx_list I.kIn ⟨_,h1,rfl⟩ e (fun z=>nomatch z) h
  | @frz a ob xs ea =>
    cases (show u=Value.ref a from rx)
    obtain ⟨_,_,_,n,_,h1⟩:=(show ObjOk X.prog X.w H s.heap a (.frz ob (.lst xs)) from I.hok a _ ea)
    exact PySem.W.kia_one PySem.W.kitx_list I.kIn ⟨_,h1,rfl⟩ e (fun z=>nomatch z) h
  | @tup a xs ea =>
    cases (show u=Value.ref a from rx)
    obtain ⟨_,_,_,p⟩:=(show ObjOk X.prog X.w H s.heap a (.tup xs) from I.hok a _ ea)
    obtain ⟨o,h1,h2,_⟩:=p
    exact PySem.W.kia_one PySem.W.kitx_tuple I.kIn ⟨o,h1,h2⟩ e (fun z=>nomatch z) h
  | @dK a kvs ea =>
    cases (show u=Value.ref a from rx)
    obtain ⟨_,_,vs,_,p⟩:=(show ObjOk X.prog X.w H s.heap a (.dK kvs) from I.hok a _ ea)
    obtain ⟨o,es,ep,h1,h2,_⟩:=p
    exact PySem.W.kia_one PySem.W.kitx_dict I.kIn ⟨o,h1,h2.1⟩ e (fun z=>nomatch z) h
  | @dT a kvs ea =>
    cases (show u=Value.ref a from rx)
    obtain ⟨_,_,xs,_,o,es,ep,h1,h2,_⟩:=(show ObjOk X.prog X.w H s.heap a (.dT kvs) from I.hok a _ ea)
    exact PySem.W.kia_one PySem.W.kitx_dict I.kIn ⟨o,h1,h2.1⟩ e (fun z=>nomatch z) h
  | @ins a C dx fs ea cl ha hn htk hm =>
    cases (show u=Value.ref a from rx)
    obtain ⟨mA,O,_⟩:=ins_get I.hok ea
    obtain ⟨od,J,_⟩:=O.look
    exact PySem.W.kia_one (PySem.W.kitx_own (cl.get _) cl.hd ha hn htk hm) I.kIn J e (fun z=>nomatch z) h
end
end L2
namespace L2
open PySem PySem.Spec PyProof.Rows
structure Room (k:Nat)(A:Around):Prop where
  hd:A.handled=none
  dp:A.depth+3*k+5<recursionLimit
  un:A.units+16*k+200<cLine
theorem Room.mono {j k:Nat}{A:Around}(r:Room k A)(h:j≤k):Room j A:=⟨r.hd,by have:=r.dp;omega,by have:=r.un;omega⟩
theorem Room.deeper {k:Nat}{A:Around}(r:Room (k+1) A)(env:Env):Room k (A.deeper env) :=
  ⟨r.hd,by have:=r.dp;show A.depth+1+3*k+5<_;omega,by have:=r.un;show A.units+3+16*k+200<_;omega⟩
theorem make_depth {A:Around}{C:Addr}{us:List Value}{kw:List (Str × Value)}:(A.under (.builtin "type.__call__" ⟨.ref C::us,kw⟩)).depth=A.depth+1:=by
  first | rfl | simp [Around.under,Code.weight,Code.isCreation,Code.isGuard,Code.isCaller,Code.frames,Code.isFrame,guardIds]
theorem make_units {A:Around}{C:Addr}{us:List Value}{kw:List (Str × Value)}:(A.under (.builtin "type.__call__" ⟨.ref C::us,kw⟩)).units=A.units+1:=by
  first | rfl | simp [Around.under,Code.cUnits,Code.frames,Code.isFrame]
theorem Room.make {k:Nat}{A:Around}(r:Room (k+1) A)(C:Addr)(us:List Value)(kw:List (Str × Value)):Room k (A.under (.builtin "type.__call__" ⟨.ref C::us,kw⟩)) :=
  ⟨r.hd,by have:=r.dp;rw [make_depth];omega,by have:=r.un;rw [make_units];omega⟩
theorem Room.depth {k:Nat}{A:Around}(r:Room k A):A.depth<recursionLimit:=by have:=r.dp;omega
def tNil:TA:=fun _ H Q=>Q [] H
def tCons (ta:TE)(tr:TA):TA:=fun σ H Q=>ta σ H fun x H1=>tr σ H1 fun xs H2=>Q (x::xs) H2
section
variable {X:Cx}{e:Expr}{es:List Expr}{te:TE}{t:TA}{pos:Pos}
theorem pa_nil:PA X [] tNil:=fun _ _ _ _ H Q I h=>Calls.spliced_nil ⟨[],H,I,.nil,h⟩
theorem pa_cons (ha:PE X e te)(hr:PA X es t)(hs:starEach (e::es) X.env=(false,eval e X.env)::starEach es X.env:=by rfl):PA X (e::es) (tCons te t):=by
  intro pos pins s σ H Q I h
  rw [hs]
  show wpAny _ _ (spliced ((false,eval e X.env)::backTo pos (starEach es X.env))) _ _ s
  refine Calls.spliced_cons (thn (ha pins s σ H _ I h) fun u s1 ⟨x,H1,I1,r1,q1⟩=>?_)
  exact thn (hr pos pins s1 σ H1 _ I1 q1) fun us s2 ⟨xs,H2,I2,r2,q2⟩=>⟨x::xs,H2,I2,.cons r1 r2,q2⟩
def tLst (t:TA):TE:=fun σ H Q=>t σ H fun xs H1=>xs.length≤sizeLine∧∀ p,H1 p=none→Q (.ref p) (upd H1 p (.lst xs))
theorem pe_lst (h:PA X es t):PE X (.List es pos) (tLst t):=by
  intro pins s σ H Q I hq
  refine wpAny_List_spliced (thn (h pos pins s σ H _ I hq) fun us s1 ⟨xs,H1,I1,r,z,q⟩=>⟨by rw [← r.length];exact z,?_⟩)
  have hf:H1 s1.heap.objs.size=none:=I1.hok.fresh (Nat.le_refl _)
  refine ⟨.ref s1.heap.objs.size,upd H1 s1.heap.objs.size (.lst xs),I1.laid (t':=s1.toks) (fun b u e=>Heap.get?_push_of_some _ e) (Nat.le_refl _) ?_,rfl,q _ hf⟩
  exact ⟨z,us,0,r,Heap.get?_push_size _ rfl⟩
end
abbrev Sp:=List V→Hp→VK→XK→Prop
abbrev CXT:=List Env→Hp→Shared→XK→Value→Shared→Prop
structure Env0 (P:Program)(w:World)(K:PySem.W.Frag)(mg:Str→Option Value)(base:Heap)(A:Around)(outer:List Env)(s:Shared)(H:Hp):Prop where
  frames:A.frames=some outer
  mod:Mod K mg base
  bs:∀ b o,base.get? b=some o→s.heap.get? b=some o∧H b=none
  bsz:base.objs.size≤s.heap.objs.size
  funs:s.heap.FunFrames base outer
  frf:∀ b∈frs outer,H b=none
  hok:HOk P w H s.heap
  bare:AllBare s.gens
def CE (outer:List Env)(P:Program)(w:World)(H:Hp)(s:Shared)(Q:VK)(u:Value)(s':Shared):Prop :=
  ∃ v H',s'.os=s.os∧AllBare s'.gens∧Un (frs outer) [] H H' s.heap s'.heap∧HOk P w H' s'.heap∧RelV v u∧Q v H'
def CR (CX:CXT)(outer:List Env)(P:Program)(w:World)(H:Hp)(s:Shared)(Q:VK)(E:XK)(r:Result)(s':Shared):Prop :=
  match r with
  | .ok (.ret u)=>CE outer P w H s Q u s'
  | .ok _=>False
  | .error e=>CX outer H s E e s'
structure FnOk (P:Program)(w:World)(K:PySem.W.Frag)(mg:Str→Option Value)(base:Heap)(CX:CXT)(k:Nat)(f:Addr)(fd:FuncData)(ps:List Str)(sp:Sp):Prop where
  len:∀ vs H Q E,sp vs H Q E→vs.length=ps.length
  run:∀ (A:Around) (outer:List Env) (s:Shared) (H:Hp) (args:Args) (us:List Value) (vs:List V) (Q:VK) (E:XK),Room k A→Env0 P w K mg base A outer s H→BindsTo s fd args (ps.zip us)→Vals vs us→sp vs H Q E →
    codeAny (model P w) A (.call (.ref f) args) (CR CX outer P w H s Q E) s
theorem FnOk.mono {P:Program}{w:World}{K:PySem.W.Frag}{mg:Str→Option Value}{base:Heap}{CX:CXT}{j k:Nat}{f:Addr}{fd:FuncData}{ps:List Str}{sp:Sp}(F:FnOk P w K mg base CX j f fd ps sp)(h:j≤k) :
    FnOk P w K mg base CX k f fd ps sp:=⟨F.len,fun A outer s H args us vs Q E hr=>F.run A outer s H args us vs Q E (hr.mono h)⟩
theorem Env0.make {P:Program}{w:World}{K:PySem.W.Frag}{mg:Str→Option Value}{base:Heap}{A:Around}{outer:List Env}{s:Shared}{H:Hp}(e:Env0 P w K mg base A outer s H)(C:Addr)(us:List Value)(kw:List (Str × Value)) :
    Env0 P w K mg base (A.under (.builtin "type.__call__" ⟨.ref C::us,kw⟩)) outer s H:=⟨by first | exact e.frames | (simpa [Around.under,Code.envs,Code.isFrame,pushEnvs] using e.frames),e.mod,e.bs,e.bsz,e.funs,e.frf,e.hok,e.bare⟩
section
variable {X:Cx}{pins:List (Addr × Obj)}{σ:St}{H:Hp}{s s':Shared}
theorem Inv.env0 (I:Inv X pins σ H s):Env0 X.prog X.w X.K X.mg X.base X.A X.stack s H :=
  ⟨I.ok.frames,I.ok.mod,I.bs,Nat.le_trans I.ok.bsz I.sz,I.stack,I.stkFree,I.hok,I.bare⟩
theorem Inv.after {Q:VK}{u:Value}(I:Inv X pins σ H s)(h:CE X.stack X.prog X.w H s Q u s'):EP X pins σ Q u s':=by
  obtain ⟨v,H',os,bare,un,hok,r,q⟩:=h
  obtain ⟨hh,g,d,t,os'⟩:=s'
  obtain rfl:os'=s.os:=os
  exact ⟨v,H',I.call (h':=hh) (g':=g) (d':=d) (t':=t) (ch:=[]) un hok bare (fun b z=>absurd z (by simp)),r,q⟩
end
def tCall (sp:Sp)(dvs:List V)(E:XK)(t:TA):TE:=fun σ H Q=>t σ H fun vs H1=>sp (vs++dvs) H1 Q E
def Binds (K:PySem.W.Frag)(fd:FuncData)(ps:List Str)(ds:List Value):Prop :=
  ∀ (s:Shared) (us:List Value),K.In s.heap→(us++ds).length=ps.length→BindsTo s fd ⟨us,[]⟩ (ps.zip (us++ds))
theorem Binds.all {K:PySem.W.Frag}{fd:FuncData}{ps:List Str}(h:∀ us:List Value,us.length=ps.length→bindArgs fd ⟨us,[]⟩=pure (ps.zip us)):Binds K fd ps []:=fun s us _ hl=>by
  rw [List.append_nil] at hl ⊢
  exact .of_eq (h us hl)
def Passes (CX:CXT)(X:Cx)(E:XK):Prop:=∀ (pins:List (Addr × Obj)) (σ:St) (H:Hp) (s:Shared) (e:Value) (s':Shared),Inv X pins σ H s→CX X.stack H s E e s'→X.xe e s'
section
variable {X:Cx}{CX:CXT}{k:Nat}{f C:Addr}{fd:FuncData}{ps:List Str}{sp:Sp}{dvs:List V}{ds:List Value}{E:XK}{x m:Str}{p pos apos:Pos}{e o:Expr}{es:List Expr}{ta:TE}{t:TA}
theorem run_fn {pins:List (Addr × Obj)}{σ:St}{H:Hp}{s:Shared}{Q:VK}{us:List Value}{vs:List V}(F:FnOk X.prog X.w X.K X.mg X.base CX k f fd ps sp)(hr:Room k X.A)(hb:Binds X.K fd ps ds)(hd:Vals dvs ds)(hx:Passes CX X E)
    (I:Inv X pins σ H s) (r:Vals vs us) (h:sp (vs++dvs) H Q E):wpAny (model X.prog X.w) X.A (call (.ref f) us) (EP X pins σ Q) X.xe s:=by
  have r2:Vals (vs++dvs) (us++ds):=r.append hd
  have hl:(us++ds).length=ps.length:=by rw [← r2.length];exact F.len _ _ _ _ h
  refine wpAny_call (codeAny_mono (F.run X.A X.stack s H ⟨us,[]⟩ (us++ds) (vs++dvs) Q E hr I.env0 (hb s us I.kIn hl) r2 h) fun r s' hq=>?_)
  cases r with
  | error e=>exact hx pins σ H s e s' I hq
  | ok fl =>
    cases fl with
    | ret u=>exact I.after hq
    | next=>exact False.elim hq
    | brk=>exact False.elim hq
    | cont=>exact False.elim hq
theorem pe_call (F:FnOk X.prog X.w X.K X.mg X.base CX k f fd ps sp)(hr:Room k X.A)(hg:Gl X x)(hm:X.mg x=some (.ref f))(hk:PySem.W.keepIn X.K (.ref f)=true)(hb:Binds X.K fd ps ds)(hd:Vals dvs ds)(hx:Passes CX X E)
    (ha:PA X (e::es) t) (hdb:(x==("__debug__":Str))=false:=by decide) (he:starEach (e::es) X.env=(false,eval e X.env)::starEach es X.env:=by rfl) (hpl:(backTo pos (starEach es X.env)).any (·.1)=false:=by rfl) :
    PE X (.Call (.Name x p) (e::es) [] pos) (tCall sp dvs E t):=by
  intro pins s σ H Q I h
  refine wpAny_Call_Name_kw (ld_glob I hg hm ?_ hdb)
  refine PySem.W.callWith_K (h₀:=X.base) I.ok.mod.kin hk (thn (ha pos pins s σ H _ I h) fun us s1 ⟨vs,H1,I1,r,q⟩=>⟨I1.kIn,?_⟩) he hpl
  exact run_fn F hr hb hd hx I1 r q
structure Mk (K:PySem.W.Frag)(C f:Addr):Prop where
  makes:PySem.W.makesIn K C=true
  init:PySem.W.findIn K (.ref C) "__init__"=some (some (.ref f))
  fn:PySem.W.isFn K (.ref f)=true
  kp:PySem.W.keepIn K (.ref C)=true
end
section
variable {X:Cx}{CX:CXT}{k:Nat}{f C:Addr}{fd:FuncData}{ps ks:List Str}{sp:Sp}{E:XK}{x m:Str}{p pos apos kpos:Pos}{e o:Expr}{es:List Expr}{kws:List Keyword}{te ta:TE}{t tk:TA}{nm:Option Str}
structure KBinds (K:PySem.W.Frag)(fd:FuncData)(ps ks:List Str)(g:List Value→List Value→List Value)(gV:List V→List V→List V):Prop where
  to:∀ (s:Shared) (us ws:List Value),K.In s.heap→(g us ws).length=ps.length→BindsTo s fd ⟨us,ks.zip ws⟩ (ps.zip (g us ws))
  rel:∀ {vs:List V} {us:List Value} {zs:List V} {ws:List Value},Vals vs us→Vals zs ws→Vals (gV vs zs) (g us ws)
variable {g:List Value→List Value→List Value}{gV:List V→List V→List V}
end
structure FnScope (N P:List Str)(sc:Scope):Prop where
  kind:sc.kind=.function
  co:sc.isCoroutine=false
  gen:sc.isGenerator=false
  nd:N.Nodup
  pre:N.take P.length=P
  par:∀ x∈P,sc.names.lookup x=some .local∨sc.names.lookup x=some .cell
  nofree:∀ y∈sc.names,y.2≠.free
theorem bindL_out {kindOf:Str→Option NameKind}{x:Str}:∀ {binds:List (Str × Value)} {m:Str→Option Value},(∀ v,(x,v)∉binds)→bindL kindOf binds m x=m x
  | [],_,_=>rfl
  | (n,v)::r,m,h=>by
    unfold bindL
    rw [bindL_out fun w hw=>h w (List.mem_cons_of_mem _ hw)]
    split
    · have:x≠n:=by rintro rfl;exact h v List.mem_cons_self
      simp [this]
    · rfl
theorem bindC_out {kindOf:Str→Option NameKind}{x:Str}:∀ {binds:List (Str × Value)} {m:Str→Option Value},(∀ v,(x,v)∉binds)→bindC kindOf binds m x=m x
  | [],_,_=>rfl
  | (n,v)::r,m,h=>by
    unfold bindC
    rw [bindC_out fun w hw=>h w (List.mem_cons_of_mem _ hw)]
    split
    · rfl
    · have:x≠n:=by rintro rfl;exact h v List.mem_cons_self
      simp [this]
theorem bindL_get {kindOf:Str→Option NameKind}{x:Str}{v:Value}:∀ {P:List Str} {vs:List Value} {i:Nat} {m:Str→Option Value},P.Nodup→P[i]?=some x→vs[i]?=some v→kindOf x=some .local →
    bindL kindOf (P.zip vs) m x=some v
  | [],_,_,_,_,h,_,_=>by simp at h
  | _::_,[],_,_,_,_,h,_=>by simp at h
  | p::P,w::vs,0,m,nd,h1,h2,hk=>by
    simp at h1 h2;subst h1;subst h2
    show bindL kindOf ((p,w)::P.zip vs) m p=_
    unfold bindL
    rw [bindL_out fun v hv=>(List.nodup_cons.mp nd).1 (List.of_mem_zip hv).1,if_pos hk]
    simp
  | p::P,w::vs,i+1,m,nd,h1,h2,hk=>by
    show bindL kindOf ((p,w)::P.zip vs) m x=_
    unfold bindL
    exact bindL_get (i:=i) (List.nodup_cons.mp nd).2 (by simpa using h1) (by simpa using h2) hk
theorem bindC_get {kindOf:Str→Option NameKind}{x:Str}{v:Value}:∀ {P:List Str} {vs:List Value} {i:Nat} {m:Str→Option Value},P.Nodup→P[i]?=some x→vs[i]?=some v→kindOf x≠some .local →
    bindC kindOf (P.zip vs) m x=some v
  | [],_,_,_,_,h,_,_=>by simp at h
  | _::_,[],_,_,_,_,h,_=>by simp at h
  | p::P,w::vs,0,m,nd,h1,h2,hk=>by
    simp at h1 h2;subst h1;subst h2
    show bindC kindOf ((p,w)::P.zip vs) m p=_
    unfold bindC
    rw [bindC_out fun v hv=>(List.nodup_cons.mp nd).1 (List.of_mem_zip hv).1,if_neg hk]
    simp
  | p::P,w::vs,i+1,m,nd,h1,h2,hk=>by
    show bindC kindOf ((p,w)::P.zip vs) m x=_
    unfold bindC
    exact bindC_get (i:=i) (List.nodup_cons.mp nd).2 (by simpa using h1) (by simpa using h2) hk
def start (N:List Str)(vs:List V):St:=vs.map some++List.replicate (N.length-vs.length) none
def cxOf (CX:CXT)(P:Program)(w:World)(K:PySem.W.Frag)(mg:Str→Option Value)(base:Heap)(N:List Str)(qual:Str)(scope:Scope)(f:Addr)(cd:Value)(A:Around)(outer:List Env)(s:Shared)(H:Hp)(E:XK):Cx where
  prog:=P
  w:=w
  K:=K
  mg:=mg
  base:=base
  A:=A.deeper (envOfC qual scope s.heap.objs.size f cd)
  N:=N
  s₀:=s
  H₀:=H
  env:=envOfC qual scope s.heap.objs.size f cd
  outer:=outer
  stack:=envOfC qual scope s.heap.objs.size f cd::outer
  ex:=[]
  calm:=true
  fn:=fun _=>true
  pn:=[]
  xe:=fun e s'=>wpAny (model P w) (A.deeper (envOfC qual scope s.heap.objs.size f cd)) (leaving (envOfC qual scope s.heap.objs.size f cd) e) (fun _ s''=>CX outer H s E e s'') (fun e' s''=>CX outer H s E e' s'') s'
theorem cell_has {sc:Scope}{n:Nat}{x:Str}(h:sc.names.lookup x=some .cell):∃ c,(cellsFrom n sc.names []).lookup x=some c:=by
  have q:=PySem.W.cellsFrom_some sc.names n [] (.inl h)
  exact Option.isSome_iff_exists.mp q
theorem inv_start {CX:CXT} {P:Program} {w:World} {K:PySem.W.Frag} {mg:Str→Option Value} {base:Heap} {N ps:List Str} {qual:Str} {scope:Scope} {f:Addr} {cd:Value} {A:Around} {outer:List Env} {s s1:Shared} {H:Hp} {E:XK} {us:List Value} {vs:List V}
    (S:FnScope N ps scope) (hd:A.handled=none) (e0:Env0 P w K mg base A outer s H) (hl:vs.length=ps.length) (r:Vals vs us)
    (x:InCallC s s.heap.objs.size (bindL (envOfC qual scope s.heap.objs.size f cd).kindOf (ps.zip us) fun _=>none) (cellsFrom (s.heap.objs.size+1) scope.names []) (bindC (envOfC qual scope s.heap.objs.size f cd).kindOf (ps.zip us) fun _=>none) s1) :
    Inv (cxOf CX P w K mg base N qual scope f cd A outer s H E) [] (start N vs) H s1:=by
  have hpl:ps.length≤N.length:=by have:=congrArg List.length S.pre;rw [List.length_take] at this;omega
  obtain ⟨h1,tk,rfl,hk⟩:=x.done
  have noA:∀ b:Addr,b∉(cxOf CX P w K mg base N qual scope f cd A outer s H E).ex:=fun b z=>absurd (show b∈([]:List Addr) from z) (by simp)
  refine ⟨⟨e0.mod,S.kind,rfl,rfl,Nat.le_refl _,fun y z c h1 h2=>?_,fun y hy=>?_,fun y c _ h=>?_,fun _=>hd,Around.frames_deeper e0.frames,.inr ⟨rfl,rfl⟩,fun b z=>absurd z (noA b),e0.bs,e0.bsz,fun b _ _=>noA b,fun b z=>absurd z (noA b),e0.funs,e0.frf⟩,
    rfl,e0.bare,Un.kept hk,⟨_,x.toInCall.ns,fun i y v h1 h2 h3=>?_⟩,fun y c h=>⟨_,x.cell y c h⟩,e0.hok.fresh (Nat.le_refl _),fun y c h=>?_,fun p hp=>absurd (show p∈([]:List (Addr × Obj)) from hp) (by simp),e0.hok.kept hk,?_⟩
  · exact name_of_addr x.apart (PySem.mem_of_lookup h1) (PySem.mem_of_lookup h2)
  · have hy:scope.names.lookup y=some .cell∨scope.names.lookup y=some .free:=hy
    rcases hy with hy | hy
    · exact cell_has hy
    · exact absurd rfl (S.nofree _ (PySem.mem_of_lookup hy))
  · exact Nat.le_of_lt (x.above y c (PySem.mem_of_lookup h))
  · have hi:i<vs.length:=by
      unfold start at h2
      by_cases hi:i<vs.length
      · exact hi
      · rw [List.getElem?_append_right (by simpa using hi)] at h2
        rw [List.getElem?_replicate] at h2
        split at h2<;>cases h2
    have ha:vs[i]?=some v:=by
      unfold start at h2
      rw [List.getElem?_append_left (by simpa using hi),List.getElem?_map] at h2
      cases e:vs[i]? with
      | none=>rw [e] at h2;cases h2
      | some a=>rw [e] at h2;cases h2;rfl
    obtain ⟨u,hu,rv⟩:=r.get ha
    have hp:ps[i]?=some y:=by
      rw [← S.pre,List.getElem?_take_of_lt (by omega)];exact h1
    have ndP:ps.Nodup:=by rw [← S.pre];exact S.nd.sublist (List.take_sublist _ _)
    refine ⟨u,rv,?_⟩
    rcases S.par y (List.mem_of_getElem? hp) with k | k
    · exact .inl ⟨k,bindL_get ndP hp hu k⟩
    · obtain ⟨c,e⟩:=cell_has (n:=s.heap.objs.size+1) k
      refine .inr ⟨.inl k,c,e,?_⟩
      have q:=x.cell y c e
      rw [bindC_get ndP hp hu (by show scope.names.lookup y≠_;rw [k];decide)] at q
      exact q
  · exact e0.hok.fresh (Nat.le_of_lt (x.above y c (PySem.mem_of_lookup h)))
  · unfold start
    show _=N.length
    rw [List.length_append,List.length_map,List.length_replicate]
    omega
theorem fn_of {CX:CXT}{P:Program}{w:World}{K:PySem.W.Frag}{mg:Str→Option Value}{base:Heap}{k:Nat}{f:Addr}{name qual:Str}{params:Arguments}{body:List Stmt}{scope:Scope}{dV kV doc pm cdv ct oc:Value}{an od:Option Addr}
    {osl:Array (Option Value)} {N ps:List Str} {sp:Sp} (lk:K.lookup f=some ⟨oc,od,.func (PySem.W.fnOf name qual params body scope dV kV doc pm an cdv ct),osl⟩) (hcd:PySem.W.codeIn K cdv qual=true) (S:FnScope N ps scope)
    (len:∀ vs H Q E,sp vs H Q E→vs.length=ps.length)
    (hbody:∀ (A:Around) (outer:List Env) (s:Shared) (H:Hp) (vs:List V) (Q:VK) (E:XK),Room k (A.deeper (envOfC qual scope s.heap.objs.size f cdv))→sp vs H Q E →
      ∃ t,PSs (cxOf CX P w K mg base N qual scope f cdv A outer s H E) body t∧t { nx:=fun _ H'=>Q .non H',rt:=Q } (start N vs) H) :
    FnOk P w K mg base CX (k+1) f (PySem.W.fnOf name qual params body scope dV kV doc pm an cdv ct) ps sp:=by
  refine ⟨len,fun A outer s H args us vs Q E hr e0 hb r hsp=>?_⟩
  have hl:=len _ _ _ _ hsp
  have KX:K.In s.heap:=e0.mod.kin.keeps fun b o e=>(e0.bs b o e).1
  have lim:s.heap.NoLimit:=e0.mod.nolimit.keeps fun b o e=>(e0.bs b o e).1
  have hkind:∀ y∈ps.zip us,scope.names.lookup y.1=some .local∨(scope.names.lookup y.1=some .cell∧((cellsFrom (s.heap.objs.size+1) scope.names []).lookup y.1).isSome=true):=fun ⟨n,v⟩ hy=>by
    rcases S.par n (List.of_mem_zip hy).1 with q | q
    · exact .inl q
    · exact .inr ⟨q,PySem.W.cellsFrom_some _ _ _ (.inl q)⟩
  refine codeAny_call_function hr.depth (KX _ _ lk) rfl S.co S.gen rfl (PySem.W.codeRec_of KX hcd) (hb _ _ _ _ ?_)
  refine wpAny_newFunctionEnv_cells S.kind hkind fun env he s1 x=>?_
  subst he
  refine ⟨lim.keeps x.toInCall.keep,codeAny_func ?_⟩
  obtain ⟨t,ht,hq⟩:=hbody A outer s H vs Q E (hr.deeper _) hsp
  have I:Inv (cxOf CX P w K mg base N qual scope f cdv A outer s H E) [] (start N vs) H s1:=inv_start S hr.hd e0 hl r x
  refine wpAny_mono (ht [] s1 (start N vs) H _ I hq) (fun fl s' hs=>?_) fun e s' hs=>hs
  have fin:∀ {σ':St} {H':Hp} {v:V} {u:Value},Inv (cxOf CX P w K mg base N qual scope f cdv A outer s H E) [] σ' H' s'→RelV v u→Q v H'→CE outer P w H s Q u s' :=
    fun {σ' H' v u} J rv q=>⟨v,H',J.os,J.bare,J.base,J.hok,rv,q⟩
  cases fl with
  | ret u =>
    obtain ⟨v,σ',H',J,rv,q⟩:=hs
    exact fin J rv q
  | next =>
    obtain ⟨σ',H',J,q⟩:=hs
    exact fin (v:=V.non) (u:=Value.none) J rfl q
  | brk =>
    obtain ⟨_,_,_,q⟩:=hs
    exact False.elim q
  | cont =>
    obtain ⟨_,_,_,q⟩:=hs
    exact False.elim q
end L2
namespace L2
open PySem PySem.Spec PyProof.Rows
section
variable {X:Cx}{x:Str}{p pos:Pos}{e:Expr}{es:List Expr}{t:TA}{id T:String}{r:List V→Hp→VK→Prop}
def tCB (r:List V→Hp→VK→Prop)(t:TA):TE:=fun σ H Q=>t σ H fun vs H1=>r vs H1 Q
theorem pe_callB (hc:CallR X (.builtin id) r)(hg:Gl X x)(hm:X.mg x=none)(hv:bootBuiltins x=some (.builtin id))(ha:PA X (e::es) t)(hn:x≠"__name__":=by decide)(hdb:(x==("__debug__":Str))=false:=by decide)
    (he:starEach (e::es) X.env=(false,eval e X.env)::starEach es X.env:=by rfl) (hpl:(backTo pos (starEach es X.env)).any (·.1)=false:=by rfl):PE X (.Call (.Name x p) (e::es) [] pos) (tCB r t):=by
  intro pins s σ H Q I h
  refine wpAny_Call_Name_kw (ld_blt I hg hm hv ?_ hn hdb)
  exact PyProof.Rows.callWith_builtin1 (thn (ha pos pins s σ H _ I h) fun us s1 ⟨vs,H1,I1,r1,q1⟩=>hc pins s1 σ H1 vs us Q I1 r1 q1) he hpl
end
end L2
namespace HT
open PySem PyProof.Rows
section
open PySem.SeqAt
open PySem.AutoSeq1 (wpAny_loadPart')
open PySem.MeetsSeq PySem.MeetsSeq2 PySem.MeetsSeq3
end
section
variable {prog:Program}{w:World}{A:Around}{E:Value→Shared→Prop}{s:Shared}
end
end HT
namespace L2
open PySem PySem.Spec PyProof.Rows
abbrev TO:=St→Hp→(Option Int→Hp→Prop)→Prop
section
variable {X:Cx}{e:Expr}{te:TE}{lo hi:Option Expr}{tl th:TO}{pos p2:Pos}
end
end L2
namespace L2
open PySem PySem.Spec PyProof.Rows
def ixN (n:Nat)(i:Int):Option Nat:=if 0≤i then (if i<n then some i.toNat else none) else if -(n:Int)≤i then some (i+n).toNat else none
def atI {α:Type}(xs:List α)(i:Int):Option α:=(ixN xs.length i).bind fun j=>xs[j]?
theorem ixN_seq {n:Nat}{i:Int}{j:Nat}(h:ixN n i=some j):seqIndex? i n=some j∧j<n∧-(n:Int)≤i∧i<n:=by
  unfold ixN at h
  by_cases h0:0≤i
  · rw [if_pos h0] at h
    by_cases h1:i<n
    · rw [if_pos h1] at h
      have e:i.toNat=j:=Option.some.inj h
      exact ⟨by rw [seqIndex_of h0 h1,e],by omega,by omega,h1⟩
    · rw [if_neg h1] at h;cases h
  · rw [if_neg h0] at h
    by_cases h1:-(n:Int)≤i
    · rw [if_pos h1] at h
      have e:(i+n).toNat=j:=Option.some.inj h
      exact ⟨by rw [seqIndex_neg (by omega) h1,e],by omega,h1,by omega⟩
    · rw [if_neg h1] at h;cases h
theorem atI_get {α:Type}{xs:List α}{i:Int}{v:α}(h:atI xs i=some v):∃ j,seqIndex? i xs.length=some j∧xs[j]?=some v∧j<xs.length∧-(xs.length:Int)≤i∧i<xs.length:=by
  unfold atI at h
  cases e:ixN xs.length i with
  | none=>rw [e] at h;cases h
  | some j =>
    rw [e] at h
    obtain ⟨h1,h2,h3,h4⟩:=ixN_seq e
    exact ⟨j,h1,h,h2,h3,h4⟩
theorem atI_nat {α:Type}{xs:List α}{j:Nat}{v:α}(h:xs[j]?=some v):atI xs (j:Int)=some v:=by
  have hj:j<xs.length:=(List.getElem?_eq_some_iff.mp h).1
  have e:ixN xs.length (j:Int)=some j:=by
    unfold ixN
    rw [if_pos (by omega),if_pos (by omega)];simp
  unfold atI;rw [e];exact h
def PlainIx (b:Expr):Prop:=∀ o i,subscripted b false o i=operate [o,i] (getItem o i)
def IxR (X:Cx) (r:R2):Prop :=
  ∀ (value slice:Expr) (pins:List (Addr × Obj)) (s:Shared) (σ:St) (H:Hp) (x y:V) (v u:Value) (Q:VK),Inv X pins σ H s→RelV x v→RelV y u→r x y H Q →
    subscripted slice false v u=operate [v,u] (getItem v u)→wpAny (model X.prog X.w) X.A (subscriptTail value slice v u) (EP X pins σ Q) X.xe s
def MtR (X:Cx) (id:String) (r:V→List V→Hp→VK→Prop):Prop :=
  ∀ (pins:List (Addr × Obj)) (s:Shared) (σ:St) (H:Hp) (x:V) (xs:List V) (v:Value) (us:List Value) (Q:VK),Inv X pins σ H s→RelV x v→Vals xs us→r x xs H Q →
    wpAny (model X.prog X.w) X.A (call (.builtin id) (v::us)) (EP X pins σ Q) X.xe s
section
variable {X:Cx}{a b:Expr}{ta tb:TE}{pos:Pos}
theorem pe_ix {r:R2}(hr:IxR X r)(ha:PE X a ta)(hb:PE X b tb)(hs:PlainIx b):PE X (.Subscript a b pos) (tOp r ta tb):=by
  intro pins s σ H Q I h
  exact Subscript_ (binT ha hb I h fun v u s2 x y H2 I2 rx ry q=>hr a b pins s2 σ H2 x y v u Q I2 rx ry q (hs _ _))
def rIxL (K:PySem.W.Frag):R2:=fun x y H Q=>∃ p xs i v,x=.ref p∧y=.int i∧SqL K H p xs∧atI xs i=some v∧Q v H
def rIxS:R2:=fun x y H Q=>∃ z i c,x=.str z∧y=.int i∧z.length≤sizeLine∧atI z.cps.toList i=some c∧Q (.str ⟨#[c]⟩) H
theorem ix_list:IxR X (rIxL X.K):=by
  intro value slice pins s σ H x y v u Q I rx ry h hs
  obtain ⟨p,xs,i,z,rfl,rfl,hq,he,q⟩:=h
  cases rx
  obtain ⟨t,rfl⟩:=ry
  obtain ⟨its,r,pl,hz⟩:=I.list hq
  obtain ⟨j,h1,h2,h3,h4,h5⟩:=atI_get he
  obtain ⟨w,ew,rw'⟩:=r.get h2
  have hl:=r.length
  have hn:=line63
  have fin:EP X pins σ Q w s:=⟨z,H,I,rw',q⟩
  by_cases h0:0≤i
  · have hj:i.toNat=j:=by
      rw [seqIndex_of h0 h5] at h1
      exact Option.some.inj h1
    exact item_listR pl.isList h0 (by omega) (by rw [hj];simpa using ew) fin hs
  · have hj:(i+(its.toArray.size:Int)).toNat=j:=by
      rw [seqIndex_neg (by omega) h4] at h1
      rw [List.size_toArray,← hl]
      exact Option.some.inj h1
    exact subscriptTail_builtinR (x:=w) pl.isList.typeIs slot_list_getitem.lookup
      (wpAny_getItem_list_neg (Q:=fun r s'=>r=w∧EP X pins σ Q r s') pl.isList (by omega) (by rw [List.size_toArray]<;>omega) (by omega) (by rw [hj];simpa using ew) ⟨rfl,fin⟩) hs
theorem ix_str:IxR X rIxS:=by
  intro value slice pins s σ H x y v u Q I rx ry h hs
  obtain ⟨z,i,c,rfl,rfl,hz,he,q⟩:=h
  obtain ⟨t,rfl⟩:=rx
  obtain ⟨t',rfl⟩:=ry
  obtain ⟨j,h1,h2,h3,h4,h5⟩:=atI_get he
  have hl:z.cps.toList.length=z.length:=by simp [Str.length]
  rw [hl] at h1 h4 h5
  have hn:=line63
  exact tail_any (typeIs_str s z t) slot_str_getitem.lookup (getItem_str (c:=c) (by
    have e1:decide (i < -(2^63:Int))=false:=decide_eq_false (by omega)
    have e2:decide (i≥2^63)=false:=decide_eq_false (by omega)
    rw [e1,e2,Bool.or_false]) (by rw [h1];simpa using h2) ⟨.str ⟨#[c]⟩,H,I.tok _,⟨_,rfl⟩,q⟩) hs
theorem call_len_seq:CallR X (.builtin "len") (fun xs H Q=>∃ p ys,xs=[.ref p]∧(SqL X.K H p ys∨SqT X.K H p ys)∧Q (.int ys.length) H):=by
  intro pins s σ H xs us Q I r h
  obtain ⟨p,ys,rfl,hq,q⟩:=h
  obtain ⟨u,rfl,rx⟩:=vals1 r
  cases rx
  have hn:=line63
  rcases hq with hq | hq
  · obtain ⟨its,r',pl,hz⟩:=I.list hq
    have hlen:=r'.length
    exact Calls.call_len_list pl.isList (by simp only [List.size_toArray]<;>omega) ⟨.int ys.length,H,I.tok _,⟨s.toks+1,by rw [List.size_toArray,hlen]⟩,q⟩
  · obtain ⟨its,r',pl,hz⟩:=I.tuple hq
    have hlen:=r'.length
    exact len_tuple pl (by simp only [List.size_toArray]<;>omega) ⟨.int ys.length,H,I.tok _,⟨s.toks+1,by rw [List.size_toArray,hlen]⟩,q⟩
theorem call_len_str:CallR X (.builtin "len") (fun xs H Q=>∃ z,xs=[.str z]∧z.length≤sizeLine∧Q (.int z.length) H):=by
  intro pins s σ H xs us Q I r h
  obtain ⟨z,rfl,hz,q⟩:=h
  obtain ⟨u,rfl,t,rfl⟩:=vals1 r
  have hn:=line63
  exact len_str (by omega) ⟨.int z.length,H,I.tok _,⟨_,rfl⟩,q⟩
def tyV (K:PySem.W.Frag)(T:String)(x:V)(H:Hp):Prop:=match x with
  | .str _=>T="str"
  | .int _=>T="int"
  | .ref p=>(T="list"∧∃ xs,SqL K H p xs)∨(T="tuple"∧∃ o,K.lookup p=some o∧o.cls=.type "tuple"∧o.dict=none) ∨
      (T="dict"∧((∃ kvs,H p=some (.dK kvs))∨∃ kvs,H p=some (.dT kvs)))∨(T="set"∧∃ S n,H p=some (.set S n))
  | _=>False
theorem tyV_is {pins:List (Addr × Obj)} {σ:St} {H:Hp} {s:Shared} {T:String} {x:V} {v:Value} (I:Inv X pins σ H s) (r:RelV x v) (ty:tyV X.K T x H) :
    s.TypeIs v T∧∀ a,v=.ref a→∃ ob,s.heap.get? a=some ob∧ob.dict=none:=by
  cases x with
  | str z =>
    obtain ⟨t,rfl⟩:=r
    cases (show T="str" from ty)
    exact ⟨typeIs_str s z t,fun _ e=>nomatch e⟩
  | int i =>
    obtain ⟨t,rfl⟩:=r
    cases (show T="int" from ty)
    exact ⟨typeIs_int s i t,fun _ e=>nomatch e⟩
  | ref p =>
    cases r
    rcases ty with ⟨rfl,xs,hq⟩ | ⟨rfl,o,hk,hc,hd⟩ | ⟨rfl,hk⟩ | ⟨rfl,S,n,hk⟩
    · obtain ⟨its,_,pl,_⟩:=I.list hq
      refine ⟨pl.isList.typeIs,fun a e=>?_⟩
      cases e
      obtain ⟨o,n,e,c,hd,_⟩:=pl
      exact ⟨o,e,hd⟩
    · refine ⟨⟨o,I.kIn p o hk,hc⟩,fun a e=>?_⟩
      cases e
      exact ⟨o,I.kIn _ o hk,hd⟩
    · have z:∃ o,s.heap.get? p=some o∧o.ExactDict:=by
        rcases hk with ⟨kvs,hk⟩ | ⟨kvs,hk⟩
        · obtain ⟨_,_,_,_,o,_,_,e,ex,_⟩:=I.hok p _ hk
          exact ⟨o,e,ex⟩
        · obtain ⟨_,_,_,_,o,_,_,e,ex,_⟩:=I.hok p _ hk
          exact ⟨o,e,ex⟩
      obtain ⟨o,e,ex⟩:=z
      refine ⟨⟨o,e,ex.1⟩,fun a e2=>?_⟩
      cases e2
      exact ⟨o,e,ex.2.1⟩
    · obtain ⟨o,_,_,_,e,ex,_⟩:=I.hok p _ hk
      refine ⟨⟨o,e,ex.1⟩,fun a e2=>?_⟩
      cases e2
      exact ⟨o,e,ex.2.1⟩
  | _=>exact False.elim ty
def tBM (K:PySem.W.Frag)(T:String)(r:V→List V→Hp→VK→Prop)(to:TE)(t:TA):TE:=fun σ H Q=>to σ H fun x H1=>tyV K T x H1∧t σ H1 fun xs H2=>r x xs H2 Q
variable {o e:Expr}{es:List Expr}{to:TE}{t:TA}{name:Str}{apos cpos:Pos}{T id:String}{r:V→List V→Hp→VK→Prop}
theorem pe_bm (pa:PlainAttrs T)(slot:Slot T name id)(hty:typeOf (.builtin id)=pure (.type "method_descriptor"))(hm:MtR X id r)(ho:PE X o to)(ha:PA X (e::es) t)
    (hbase:attributeBase o name X.env (eval o X.env)=eval o X.env:=by rfl)
    (hfew:((backTo cpos (starEach (e::es) X.env)).all (fun x=>!x.1)&&(backToKw cpos (keywordEach [] X.env)).all (fun x=>x.1.isSome)
      && decide ((e::es).length+([]:List Keyword).length+(if ([]:List Keyword).isEmpty then 0 else 1)<30))=true:=by rfl)
    (hline:(apos.endLine==cpos.line)=true:=by rfl) (hs:starEach (e::es) X.env=(false,eval e X.env)::starEach es X.env:=by rfl) (hplain:(backTo cpos (starEach es X.env)).any (·.1)=false:=by rfl) :
    PE X (.Call (.Attribute o name apos) (e::es) [] cpos) (tBM X.K T r to t):=by
  intro pins s σ H Q I h
  refine wpAny_Call_method_late hbase hfew hline rfl (thn (ho pins s σ H _ I h) fun v s1 ⟨x,H1,I1,r1,ty,q1⟩=>?_)
  obtain ⟨h1,h2⟩:=tyV_is I1 r1 ty
  refine ⟨T,id,pa,slot,hty,h1,h2,?_⟩
  have hA:=ha cpos pins s1 σ H1 _ I1 q1
  rw [hs] at hA ⊢
  refine Calls.callWith_builtin (by show (false||(backTo cpos (starEach es X.env)).any (·.1))=false;rw [hplain]<;>rfl) (Calls.evalArgs_plain ?_)
  exact thn hA fun us s2 ⟨vs,H2,I2,r2,q2⟩=>hm pins s2 σ H2 x vs v us Q I2 r1 r2 q2
end
end L2
namespace L2
open PySem PySem.Spec PyProof.Rows
def MtM (X:Cx) (id:String) (r:V→List V→Hp→VK→Prop):Prop :=
  ∀ (pins:List (Addr × Obj)) (s:Shared) (σ:St) (H:Hp) (x:V) (xs:List V) (v:Value) (us:List Value) (Q:VK),Inv X pins σ H s→RelV x v→Vals xs us→r x xs H Q →
    wpAny (model X.prog X.w) X.A (call (.builtin id) (v::us)) (EP X pins σ Q) X.xe s
theorem Vals.one:∀ {x:V} {us:List Value},Vals [x] us→∃ u,us=[u]∧RelV x u
  | _,_,.cons r .nil=>⟨_,rfl,r⟩
theorem Vals.two:∀ {x y:V} {us:List Value},Vals [x,y] us→∃ u v,us=[u,v]∧RelV x u∧RelV y v:=by
  intro x y us h
  cases h with
  | cons r t =>
    cases t with
    | cons q t2 =>
      cases t2
      exact ⟨_,_,rfl,r,q⟩
section
variable {X:Cx}{pins:List (Addr × Obj)}{σ:St}{H:Hp}{s:Shared}{l b:Addr}{xs ys zs:List V}
theorem Inv.lset {its its':List Value}{n:Nat}{f:Array Value→Array Value}{t':Nat}(I:Inv X pins σ H s)(hH:H l=some (.lst xs))
    (e:s.heap.get? l=some { cls:=.type "list",data:=.seq its.toArray n }) (hf:f its.toArray=its'.toArray) (hv:Vals ys its') (hz:ys.length≤sizeLine) :
    Inv X pins σ (upd H l (.lst ys)) { s with heap:=s.heap.update l (Obj.mapSeq f),toks:=t' }:=by
  have q:=PySem.IsL.update e f
  rw [hf] at q
  refine I.write (x:=l) (e:=l) (by rw [hH];exact trivial) (.inl rfl) (fun b' u hb hu=>(Heap.get?_update_other s.heap (Obj.mapSeq f) (Ne.symm hb)).trans hu) ⟨_,q⟩ ?_
  exact ⟨hz,its',_,hv,q⟩
theorem Inv.lnew {its:List Value}{t':Nat}(I:Inv X pins σ H s)(hv:Vals ys its)(hz:ys.length≤sizeLine) :
    Inv X pins σ (upd H s.heap.objs.size (.lst ys)) { s with heap:=s.heap.push { cls:=.type "list",data:=.seq its.toArray },toks:=t' } :=
  I.laid (fun _ _ q=>Heap.get?_push_of_some _ q) (Nat.le_refl _) ⟨hz,its,0,hv,Heap.get?_push_size _ rfl⟩
theorem Inv.fresh (I:Inv X pins σ H s):H s.heap.objs.size=none:=I.hok.fresh (Nat.le_refl _)
theorem Inv.lstM (I:Inv X pins σ H s)(hH:H l=some (.lst xs)):xs.length≤sizeLine∧∃ (its:List Value) (n:Nat),Vals xs its∧xs.length=its.length∧s.heap.get? l=some { cls:=.type "list",data:=.seq its.toArray n }:=by
  obtain ⟨z,its,n,r,e⟩:=I.hok l _ hH
  exact ⟨z,its,n,r,r.length,e⟩
end
section
variable {X:Cx}
def rAppend:V→List V→Hp→VK→Prop:=fun x vs H Q=>∃ l xs y,x=.ref l∧vs=[y]∧H l=some (.lst xs)∧xs.length<sizeLine∧Q .non (upd H l (.lst (xs++[y])))
theorem mt_append:MtM X "list.append" rAppend:=by
  intro pins s σ H x vs v us Q I rx rv h
  obtain ⟨l,xs,y,rfl,rfl,hH,hz,q⟩:=h
  cases rx
  obtain ⟨u,rfl,ru⟩:=rv.one
  obtain ⟨z,its,n,r,hl,e⟩:=I.lstM hH
  refine call_meets F.slot_list_append ⟨_,e,rfl⟩ F.entry_list_append (F.args_list_append_2 _ _) (PySem.list_append l its.toArray n u (by rw [List.size_toArray];omega)) ⟨e,?_⟩
  refine ⟨.non,_,I.lset (its':=its++[u]) hH e (by simp) (r.append (.cons ru .nil)) ?_,rfl,q⟩
  rw [List.length_append,List.length_singleton]
  omega
def rCat:R2:=fun x y H Q=>∃ l b xs zs,x=.ref l∧y=.ref b∧H l=some (.lst xs)∧H b=some (.lst zs)∧xs.length+zs.length≤sizeLine∧∀ p,H p=none→Q (.ref p) (upd H p (.lst (xs++zs)))
theorem op_cat:OpR X (binaryOp .Add) rCat:=by
  intro pins s σ H x y v u Q I rx ry h
  obtain ⟨l,b,xs,zs,rfl,rfl,hH,hB,hz,q⟩:=h
  cases rx
  cases ry
  obtain ⟨z,its,n,r,hl,e⟩:=I.lstM hH
  obtain ⟨z2,its2,n2,r2,hl2,e2⟩:=I.lstM hB
  refine PySem.P.add_list e e2 ?_ (by rw [List.size_toArray,List.size_toArray];omega)
  have ea:its.toArray++its2.toArray=(its++its2).toArray:=by simp
  rw [ea]
  exact ⟨.ref _,_,I.lnew (t':=s.toks) (r.append r2) (by rw [List.length_append];omega),rfl,q _ I.fresh⟩
end
section
variable {prog:Program}{w:World}{A:Around}{E:Value→Shared→Prop}{s:Shared}
set_option maxRecDepth 100000 in
end
section
variable {X:Cx}
end
end L2
namespace Att
open PySem PySem.W PySem.Calls PyProof.Rows
theorem ints_of_wellAll {P:Params}{h:Heap}:∀ (ns:List Int) (vs:List Value),WellAll P h vs (ns.map WData.int)→IntsAre vs ns:=by
  intro ns
  induction ns with
  | nil =>
    intro vs w
    rw [List.map_nil] at w
    cases w
    exact .nil
  | cons n ns ih =>
    intro vs w
    rw [List.map_cons] at w
    cases w with
    | cons a b =>
      cases a
      exact .cons _ _ (ih _ b)
theorem script_of {l:OpenLaw}{n:Nat}(hn:l.most=some n){P:Params}{h:Heap}{args:List WData}{vals:List Value}
    (hpre:l.row.toRowW.claim.pre args=true) (hwl:WellAll P h vals args) :
    ∃ a vs ns,vals=[Value.ref a]∧args=[WData.list (ns.map WData.int)]∧h.get? a=some { cls:=.type "list",data:=.seq vs.toArray }∧IntsAre vs ns∧ns.length≤n:=by
  have hsh:WShape.hasAll [] args [.list .int]=true:=(pre_splitW hpre).1
  have hc:l.pre.holds [] { args:=args }=true:=(pre_splitW hpre).2
  obtain ⟨d,r,rfl,h1,h2⟩:=hasAllW_cons hsh
  obtain rfl:=hasAllW_nil h2
  obtain ⟨xs,rfl,h3⟩:=hasW_list h1
  obtain ⟨ns,rfl⟩:=items_int h3
  have hlen:ns.length≤n:=by
    unfold OpenLaw.pre at hc
    have h4:(WTm.not (.lt (.lit (.int (n:Int))) (.len (.arg 0)))).holds [] { args:=[.list (ns.map .int)] }=true:=by
      have h4:=(holds_andW hc).1
      rw [hn] at h4
      exact h4
    have h5:=condW_of h4 (w_not (w_lt w_lit (w_len_list (w_arg rfl))))
    rw [List.length_map] at h5
    refine Nat.le_of_not_lt fun q=>?_
    have q':(n:Int)<((ns.length:Nat):Int):=by omega
    first
      | (rw [decide_eq_true q'] at h5;exact absurd h5 (by decide))
      | (simp at h5;omega)
  cases hwl with
  | cons w1 w2 =>
    cases w2
    cases w1 with
    | list ho hall=>exact ⟨_,_,ns,rfl,rfl,ho,ints_of_wellAll ns _ hall,hlen⟩
theorem post_true (l:OpenLaw)(args:List WData):l.row.toRowW.claim.post args (.bool true) args=true :=
  postW_of (r:=l.row.toRowW) (X:=(true==true))
    (show WShape.has [] (.bool true) .bool=true by first | rfl | decide | simp [WShape.has,WShape.arms,WShape.armsAll])
    (show (WTm.eq .res (.lit (.bool true))).value [] { args:=args,res:=some (.bool true),after:=args }=some (.bool (true==true)) from w_eq_bool (w_res rfl) w_lit) rfl
theorem attach_call {l:OpenLaw}{n:Nat}{q:Program}{loose:List Str}{XP:(Str→Option Value)→Heap→Prop}{YP:World→Heap→Prop}{d:DefRec}
    (hn:l.most=some n) (hdf:d.params.defaults=[])
    (call:∀ (w:World) (s₀ s₁:Shared) (mg mb:Str→Option Value) (fa:Addr) (o:Obj) (pm cd doc:Value) (a:Addr) (vs:List Value) (ns:List Int),
      Ground q loose [] XP w s₀ mg mb s₁.heap→YP w s₁.heap →
      s₁.heap.get? fa=some o→o.data=.func (docDef d.name d.params d.body d.scope pm cd doc)→s₁.heap.CodeRec cd d.name→mg d.name=some (.ref fa) →
      s₁.heap.get? a=some { cls:=.type "list",data:=.seq vs.toArray }→IntsAre vs ns→ns.length≤n→s₁.gens=#[] →
      codeAny (model l.prog w) callerA (.call (.ref fa) ⟨[.ref a],[]⟩) (fun r s'=>r=.ok (.ret (.bool true))∧OldK s₁.heap s'.heap∧s'.os=s₁.os∧AllBare s'.gens) s₁) :
    WalkO q loose XP YP l.row.toRowW d [] (fun f vs=>PySem.call f vs):=by
  intro w s₀ s₁ mg mb G Y fa o pm cd doc dV kV ho hd hcd hD hmg hg args vals as hpre hlay hrd hwl hlo
  obtain rfl:dV=.none:=Dflts.none hD hdf
  obtain rfl:kV=.none:=Dflts.noKw hD
  obtain ⟨a,vs,ns,rfl,rfl,hobj,hints,hlen⟩:=script_of hn hpre hwl
  refine enter_call (codeAny_mono (call w s₀ s₁ mg mb fa o pm cd doc a vs ns G Y ho (fd_plain hd) hcd hmg hobj hints hlen hg) fun r s' hq=>?_)
  obtain ⟨rfl,h2,h3,h4⟩:=hq
  exact ⟨.inl ⟨.bool true,.bool true,[],rfl,fun _=>rfl,.bool true,post_true l _,fun _=>⟨List.Pairwise.nil,fun _ hm=>(nomatch hm)⟩⟩,h2,h3,h4⟩
section
variable {prog:Program}{w:World}{A:Around}{E:Value→Shared→Prop}{s:Shared}{K:Frag}
end
end Att
namespace L2
open PySem PySem.Spec PyProof.Rows
theorem vals_ints:∀ {vs:List Value} {ns:List Int},IntsAre vs ns→Vals (ns.map V.int) vs
  | _,_,.nil=>.nil
  | _,_,.cons n t h=>.cons ⟨t,rfl⟩ (vals_ints h)
def Only (H:Hp):Prop:=∀ b,H b=none∨∃ o xs,H b=some (.frz o (.lst xs))
theorem law_call {P:Program} {w:World} {K:PySem.W.Frag} {mg mb:Str→Option Value} {CX:CXT} {k:Nat} {fa a:Addr} {fd:FuncData} {x:Str} {sp:Sp} {s₁:Shared} {vs:List Value} {ns:List Int}
    (KX:K.In s₁.heap) (hns:s₁.heap.Ns mainGlobals mg) (hb:s₁.heap.Ns builtinsNs mb) (hbb:∀ x:Str,x≠"__name__"→mb x=bootBuiltins x) (hlim:s₁.heap.NoLimit) (hg:s₁.gens=#[])
    (ha:s₁.heap.get? a=some { cls:=.type "list",data:=.seq vs.toArray }) (hi:IntsAre vs ns) (hl:ns.length≤sizeLine) (hr:Room k callerA)
    (F:∀ base:Heap,K.In base→base.Ns mainGlobals mg→FnOk P w K mg base CX k fa fd [x] sp) (hbind:∀ (s:Shared) (u:Value),BindsTo s fd ⟨[u],[]⟩ [(x,u)])
    (hsp:∀ H:Hp,Only H→SqL K H a (ns.map V.int)→sp [.ref a] H (fun v _=>v=.bl true) fun _ _ _=>False)
    (hCX:∀ H e s',CX [] H s₁ (fun _ _ _=>False) e s'→False) :
    codeAny (model P w) callerA (.call (.ref fa) ⟨[.ref a],[]⟩) (fun r s'=>r=.ok (.ret (.bool true))∧OldK s₁.heap s'.heap∧s'.os=s₁.os∧AllBare s'.gens) s₁:=by
  have rv:=vals_ints hi
  have lenV:=hi.length
  have core : ∀ H:Hp,Only H→SqL K H a (ns.map V.int)→HOk P w H s₁.heap→(∀ b,H b≠none→b=a)→(H a≠none→K.lookup a=none) →
      codeAny (model P w) callerA (.call (.ref fa) ⟨[.ref a],[]⟩) (fun r s'=>r=.ok (.ret (.bool true))∧OldK s₁.heap s'.heap∧s'.os=s₁.os∧AllBare s'.gens) s₁:=by
    intro H hO hS hok hA hK
    have base_of:∀ {b:Addr} {o:Obj},s₁.heap.get? b=some o→H b=none→(hidT s₁.heap H).get? b=some o:=fun e n=>hidT_get e n
    have noA:∀ {b:Addr} {o:Obj} {es:Array DictEntry} {ep:Nat},s₁.heap.get? b=some o→o.data=.dict es ep→H b=none:=fun {b o es ep} e d=>by
      cases q:H b with
      | none=>rfl
      | some u =>
        have e':b=a:=hA b (by rw [q];simp)
        subst e'
        rw [ha] at e;cases e
        have d':Data.seq vs.toArray _=Data.dict es ep:=d
        cases d'
    have nsK:∀ {b:Addr} {m:Str→Option Value},s₁.heap.Ns b m→(hidT s₁.heap H).Ns b m:=fun {b m} ⟨o,es,ep,e,d,r⟩=>⟨o,es,ep,base_of e (noA e d),d,r⟩
    have hKb:K.In (hidT s₁.heap H):=fun b o e=>base_of (KX b o e) (by
      cases q:H b with
      | none=>rfl
      | some u =>
        have e':b=a:=hA b (by rw [q];simp)
        subst e'
        rw [hK (by rw [q];simp)] at e;cases e)
    have hM:Mod K mg (hidT s₁.heap H):=⟨hKb,nsK hns,⟨mb,nsK hb,hbb⟩,let ⟨mc,h1,h2⟩:=hlim;⟨mc,nsK h1,h2⟩⟩
    have e0:Env0 P w K mg (hidT s₁.heap H) callerA [] s₁ H:=⟨rfl,hM,fun b o e=>of_hidT e,Nat.le_of_eq (hidT_size _ _),trivial,fun b hb=>absurd (show b∈([]:List Addr) from hb) (by simp),hok,.of_eq hg⟩
    refine codeAny_mono ((F _ hKb (nsK hns)).run callerA [] s₁ H ⟨[.ref a],[]⟩ [.ref a] [.ref a] _ _ hr e0 (hbind s₁ (.ref a)) (.cons rfl .nil) (hsp H hO hS)) fun r s' h=>?_
    cases r with
    | error e=>exact (hCX H e s' h).elim
    | ok fl =>
      cases fl with
      | next=>exact False.elim h
      | brk=>exact False.elim h
      | cont=>exact False.elim h
      | ret u =>
        obtain ⟨v,H',os,bare,un,hok',r',q⟩:=h
        have q':v=.bl true:=q
        subst q'
        obtain rfl:u=Value.bool true:=r'
        refine ⟨rfl,OldK.of_keep fun b o e=>?_,os,bare⟩
        cases q:H b with
        | none=>exact un.keep b o e q (by intro z;exact absurd (show b∈([]:List Addr) from z) (by simp)) (by simp)
        | some u =>
          rcases hO b with z | ⟨ob,xs,z⟩
          · rw [q] at z;cases z
          · have z2:=un.frzs b ob _ z
            obtain ⟨e1,_⟩:=hok b _ z
            obtain ⟨e2,_⟩:=hok' b _ z2
            rw [e] at e1;cases e1
            exact e2
  cases hk:K.lookup a with
  | some o =>
    have e:=KX a o hk
    rw [ha] at e
    cases e
    refine core (fun _=>none) (fun _=>.inl rfl) (.inr ⟨_,vs.toArray,_,hk,rfl,rfl,rfl,by rw [List.size_toArray,lenV];exact hl,by simpa using rv⟩) (fun b u z=>by have z':(none:Option HO)=some u:=z;cases z') (fun b z=>absurd rfl z) fun z=>absurd rfl z
  | none =>
    refine core (fun b=>if b=a then some (.frz { cls:=.type "list",data:=.seq vs.toArray } (.lst (ns.map V.int))) else none) (fun b=>?_) (.inl (.inr ⟨{ cls:=.type "list",data:=.seq vs.toArray },if_pos rfl⟩)) (fun b u z=>?_) (fun b z=>?_) fun _=>hk
    · by_cases hb:b=a
      · exact .inr ⟨_,_,if_pos hb⟩
      · exact .inl (if_neg hb)
    · by_cases hb:b=a
      · have z':=(if_pos hb).symm.trans z
        cases z'
        subst hb
        exact ⟨ha,by rw [List.length_map];exact hl,vs,_,rv,ha⟩
      · have z':=(if_neg hb).symm.trans z
        cases z'
    · by_cases hb:b=a
      · exact hb
      · exact absurd (if_neg hb) z
end L2
namespace L2
open PySem PySem.Spec PyProof.Rows
abbrev KOf {K:PySem.W.Frag}{h:Heap}(_:K.In h):PySem.W.Frag:=K
theorem walk_of {l:PySem.W.OpenLaw} {n k:Nat} {q:Program} {loose:List Str} {XP:(Str→Option Value)→Heap→Prop} {YP:World→Heap→Prop} {d:DefRec} {K:Params→PySem.W.Frag} {CX:World→CXT} {sp:World→Sp} {x:Str}
    (hn:l.most=some n) (hn2:n≤sizeLine) (hdf:d.params.defaults=[]) (hr:Room k callerA)
    (hY:∀ (w:World) (h:Heap),YP w h→(K w.params).In h)
    (F:∀ (w:World) (mg:Str→Option Value) (fa:Addr) (h:Heap),(K w.params).In h→h.Ns mainGlobals mg→mg d.name=some (.ref fa) →
      ∃ fd:FuncData,(∀ (s:Shared) (u:Value),BindsTo s fd ⟨[u],[]⟩ [(x,u)]) ∧
        ∀ base:Heap,(K w.params).In base→base.Ns mainGlobals mg→FnOk l.prog w (K w.params) mg base (CX w) k fa fd [x] (sp w))
    (hsp:∀ (w:World) (H:Hp) (a:Addr) (ns:List Int),ns.length≤n→Only H→SqL (K w.params) H a (ns.map V.int)→sp w [.ref a] H (fun v _=>v=.bl true) fun _ _ _=>False)
    (hCX:∀ (w:World) (H:Hp) (s:Shared) (e:Value) (s':Shared),CX w [] H s (fun _ _ _=>False) e s'→False) :
    PySem.W.WalkO q loose XP YP l.row.toRowW d [] (fun f vs=>PySem.call f vs):=by
  refine Att.attach_call hn hdf fun w s₀ s₁ mg mb fa o pm cd doc a vs ns G Y ho hd hcd hmg hobj hints hlen hg=>?_
  have KX:=hY w _ Y
  obtain ⟨fd,hb,hF⟩:=F w mg fa _ KX G.T.g hmg
  exact law_call KX G.T.g G.T.b G.T.builtins G.T.nolimit hg hobj hints (Nat.le_trans hlen hn2) hr hF hb (fun H hO hS=>hsp w H a ns hlen hO hS) fun H e s'=>hCX w H s₁ e s'
end L2
namespace L2
open PySem PySem.Spec PyProof.Rows
def inClass (s:Stmt)(j:Nat):Stmt:=match s with
  | .ClassDef _ _ _ body _ _ _ _ _ _ _=>body.getD j (.Pass ⟨0,0,0,0⟩)
  | _=>.Pass ⟨0,0,0,0⟩
def defArgs (s:Stmt):Arguments:=match s with
  | .FunctionDef _ a _ _ _ _ _ _ _ _=>a
  | _=>{ posonlyargs:=[],args:=[],vararg:=none,kwonlyargs:=[],kw_defaults:=[],kwarg:=none,defaults:=[] }
def defBody (s:Stmt):List Stmt:=match s with
  | .FunctionDef _ _ b _ _ _ _ _ _ _=>b
  | _=>[]
def defScope (s:Stmt):Scope:=match s with
  | .FunctionDef _ _ _ _ _ _ sc _ _ _=>sc
  | _=>{ kind:=.function,names:=[],isGenerator:=false,isCoroutine:=false }
abbrev CX0:CXT:=fun _ _ _ _ _ _=>False
abbrev E0:XK:=fun _ _ _=>False
theorem pass0 {X:Cx}:Passes CX0 X E0:=fun _ _ _ _ _ _ _ h=>h.elim
structure Fun (K:PySem.W.Frag)(x qual:Str)(st:Stmt)(f:Addr)(fd:FuncData):Prop where
  ex:∃ (oc:Value) (od:Option Addr) (kV doc pm:Value) (an:Option Addr) (cdv ct:Value) (osl:Array (Option Value)),
    fd=PySem.W.fnOf x qual (defArgs st) (defBody st) (defScope st) .none kV doc pm an cdv ct∧K.lookup f=some ⟨oc,od,.func fd,osl⟩∧PySem.W.codeIn K cdv qual=true
  kp:PySem.W.keepIn K (.ref f)=true
section
variable {P:Program}{w:World}{K:PySem.W.Frag}{mg:Str→Option Value}{base:Heap}
theorem Fun.ok {x qual:Str}{st:Stmt}{f:Addr}{fd:FuncData}{N ps:List Str}{k:Nat}{sp:Sp}(F:Fun K x qual st f fd)(S:FnScope N ps (defScope st))(len:∀ vs H Q E,sp vs H Q E→vs.length=ps.length)
    (hbody:∀ (cdv:Value) (A:Around) (outer:List Env) (s:Shared) (H:Hp) (vs:List V) (Q:VK) (E:XK),Room k (A.deeper (envOfC qual (defScope st) s.heap.objs.size f cdv))→sp vs H Q E →
      ∃ t,PSs (cxOf CX0 P w K mg base N qual (defScope st) f cdv A outer s H E).nox (defBody st) t∧t { nx:=fun _ H'=>Q .non H',rt:=Q } (start N vs) H):FnOk P w K mg base CX0 (k+1) f fd ps sp:=by
  obtain ⟨oc,od,kV,doc,pm,an,cdv,ct,osl,rfl,lk,hcd⟩:=F.ex
  refine fn_of lk hcd S len fun A outer s H vs Q E hr hsp=>?_
  obtain ⟨t,h,q⟩:=hbody cdv A outer s H vs Q E hr hsp
  exact ⟨t,h.nox,q⟩
theorem Fun.binds {x qual:Str}{st:Stmt}{f:Addr}{fd:FuncData}{ps:List Str}(F:Fun K x qual st f fd)
    (h:∀ (kV doc pm:Value) (an:Option Addr) (cdv ct:Value) (us:List Value),us.length=ps.length→bindArgs (PySem.W.fnOf x qual (defArgs st) (defBody st) (defScope st) .none kV doc pm an cdv ct) ⟨us,[]⟩=pure (ps.zip us)):Binds K fd ps []:=by
  obtain ⟨oc,od,kV,doc,pm,an,cdv,ct,osl,rfl,lk,hcd⟩:=F.ex
  exact .all (h kV doc pm an cdv ct)
theorem fun_mk {x qual:Str}{st:Stmt}{f:Addr}{oc:Value}{od an:Option Addr}{osl:Array (Option Value)}{kV doc pm cdv ct:Value}(l:K.lookup f=some ⟨oc,od,.func (PySem.W.fnOf x qual (defArgs st) (defBody st) (defScope st) .none kV doc pm an cdv ct),osl⟩)
    (c:PySem.W.codeIn K cdv qual=true) (k:PySem.W.keepIn K (.ref f)=true):Fun K x qual st f (PySem.W.fnOf x qual (defArgs st) (defBody st) (defScope st) .none kV doc pm an cdv ct):=⟨⟨oc,od,kV,doc,pm,an,cdv,ct,osl,rfl,l,c⟩,k⟩
end
section
variable {X:Cx}
theorem pv (i:Nat){x:Str}{pos:Pos}(hN:X.N[i]?=some x:=by rfl)(hv:Vis X.env.scope x:=by first | exact Or.inl rfl | exact Or.inr (Or.inl rfl) | exact Or.inr (Or.inr rfl))(hd:(x==("__debug__":Str))=false:=by decide)
    (hcd:(x==("__classdict__":Str))=false:=by decide):PE X (.Name x pos) (tVar i):=pe_var hN hv hd hcd
end
def Same (H H':Hp):Prop:=∀ b o,H b=some o→H' b=some o
theorem Same.refl (H:Hp):Same H H:=fun _ _ h=>h
theorem Same.trans {H H1 H2:Hp}(a:Same H H1)(b:Same H1 H2):Same H H2:=fun c o h=>b c o (a c o h)
end L2
namespace L2
open PySem PySem.Spec PyProof.Rows
section
variable {κ:Type}[DecidableEq κ]
end
section
variable {P:Program}{w:World}{H:Hp}{h:Heap}{a:Addr}
end
section
variable {X:Cx}{pins:List (Addr × Obj)}{σ:St}{H:Hp}{s:Shared}{a:Addr}{y v:V}{u r:Value}{o:Option V}{A:Around}{E:Value→Shared→Prop}
end
section
variable {X:Cx}{pins:List (Addr × Obj)}{σ:St}{H:Hp}{s:Shared}{a:Addr}{kvs:List (Key × V)}{k:Key}{u:Value}{A:Around}{E:Value→Shared→Prop}
end
section
variable {X:Cx}{o i e value:Expr}{pos pos' tpos:Pos}{td ty tv:TE}
end
section
variable {X:Cx}{pos:Pos}
end
structure M1 (X:Cx)(o:Expr)(m:Str)(apos:Pos)(e:Expr)(cpos:Pos):Prop where
  base:attributeBase o m X.env (eval o X.env)=eval o X.env
  few:((backTo cpos (starEach [e] X.env)).all (fun x=>!x.1)&&(backToKw cpos (keywordEach [] X.env)).all (fun x=>x.1.isSome)
    && decide (([e]:List Expr).length+([]:List Keyword).length+(if ([]:List Keyword).isEmpty then 0 else 1)<30))=true
  line:(apos.endLine==cpos.line)=true
  trees:backTo cpos (starEach [e] X.env)=[(false,eval e X.env)]
structure M2 (X:Cx)(o:Expr)(m:Str)(apos:Pos)(e f:Expr)(cpos:Pos):Prop where
  base:attributeBase o m X.env (eval o X.env)=eval o X.env
  few:((backTo cpos (starEach [e,f] X.env)).all (fun x=>!x.1)&&(backToKw cpos (keywordEach [] X.env)).all (fun x=>x.1.isSome)
    && decide (([e,f]:List Expr).length+([]:List Keyword).length+(if ([]:List Keyword).isEmpty then 0 else 1)<30))=true
  line:(apos.endLine==cpos.line)=true
  trees:backTo cpos (starEach [e,f] X.env)=[(false,eval e X.env),(false,eval f X.env)]
section
variable {X:Cx}{pins:List (Addr × Obj)}{σ:St}{H:Hp}{s:Shared}{a:Addr}{y d:V}{u r:Value}{o:Option V}{A:Around}{E:Value→Shared→Prop}
end
section
variable {X:Cx}{o e f:Expr}{apos cpos:Pos}{td ty tx:TE}
end
section
variable {X:Cx}{pins:List (Addr × Obj)}{σ:St}{H:Hp}{s:Shared}{a:Addr}{kvs:List (Key × V)}{A:Around}{E:Value→Shared→Prop}
end
section
variable {X:Cx}{pins:List (Addr × Obj)}{σ:St}{H:Hp}{s:Shared}{a:Addr}{y:V}{u:Value}{A:Around}{E:Value→Shared→Prop}
end
section
variable {X:Cx}
end
section
variable {κ:Type}[DecidableEq κ]
end
end L2
namespace BM
open PySem L2 PyProof.Rows
def wd:List Nat→Nat
  | []=>0
  | p::r=>2^p+wd r
def Up:Nat→List Nat→Prop
  | _,[]=>True
  | a,p::r=>a≤p∧Up (p+1) r
def pl (n w:Nat):List Nat:=(List.range n).filter w.testBit
inductive Dec:List Nat→List (Nat × Nat)→Prop
  | nil:Dec [] []
  | cons {p n:Nat} {rest:List Nat} {rs:List (Nat × Nat)} (u:Up (p+n+2) rest) (h:Dec rest rs):Dec (List.range' p (n+1)++rest) ((p,p+n)::rs)
end BM
namespace L2
open PySem PySem.Spec PyProof.Rows
section
variable {prog:Program}{w:World}{A:Around}{R:Result→Shared→Prop}{s:Shared}
theorem compLoop_any {elt target iter:Expr}{ifs:List Expr}{scope:Scope}{pos:Pos}{it acc:Value}{env:Env}(I:Nat→Shared→Prop)
    (turn : ∀ n s,I n s→wpAny (model prog w) A (pyNext it) (fun r s₁=>match r with
      | none=>R (.ok .next) s₁
      | some v=>wpAny (model prog w) A (letOwnedTupleGo target it v) (fun _ s₀=>wpAny (model prog w) A (assign target env v) (fun _ s₂ =>
          wpAny (model prog w) A (forIn ifs true fun c r=>if r=true then do let ok ← isTrue c env (eval c env);pure (ForInStep.yield ok) else pure (ForInStep.yield r)) (fun ok s₃ =>
            if ok=true then wpAny (model prog w) A (eval elt env) (fun x s₄ =>
              wpAny (model prog w) A (call (.builtin "list.append") [acc,x]) (fun _ s₅=>∃ m,m<n∧I m s₅) (fun _ _=>False) s₄) (fun _ _=>False) s₃
            else ∃ m,m<n∧I m s₃) (fun _ _=>False) s₂) (fun _ _=>False) s₀) (fun _ _=>False) s₁) (fun _ _=>False) s)
    (n:Nat) (h:I n s) :
    codeAny (model prog w) A (.compLoop (.ListComp elt [⟨target,iter,ifs,0⟩] scope pos) 0 it acc env) R s:=by
  refine codeAny_loop rfl I (fun n s hI=>?_) n h
  show wpAny _ A ((compTurn (.ListComp elt [⟨target,iter,ifs,0⟩] scope pos) 0 it acc env).onRaise (fun x=>do noteFrame x env;theTreesLotGoes x)) _ _ s
  refine wpAny_noted ?_
  rw [compTurn_list]
  refine wpAny_bind (wpAny_standAt (wpAny_bind (wpAny_mono (turn n s hI) (fun r s₁ h₁=>?_) fun _ _ h'=>h'.elim)))
  cases r with
  | none=>exact wpAny_pure h₁
  | some v =>
    refine wpAny_bind (wpAny_mono h₁ (fun _ s₀ h₀=>?_) fun _ _ h'=>h'.elim)
    refine wpAny_bind (wpAny_mono h₀ (fun _ s₂ h₂=>wpAny_bind (wpAny_mono h₂ (fun ok s₃ h₃=>?_) fun _ _ h'=>h'.elim)) fun _ _ h'=>h'.elim)
    cases ok with
    | false=>exact wpAny_pure ⟨rfl,h₃⟩
    | true =>
      exact wpAny_bind (wpAny_bind (wpAny_mono h₃ (fun x s₄ h₄=>wpAny_bind (wpAny_mono h₄ (fun _ s₅ h₅=>wpAny_pure (wpAny_pure ⟨rfl,h₅⟩)) fun _ _ h'=>h'.elim)) fun _ _ h'=>h'.elim))
end
theorem closure_aux {env:Env}:∀ (names:List (Str × NameKind)) (acc:List (Str × Addr)),(∀ z∈names,z.2=.free→∃ c,env.cells.lookup z.1=some c) →
    ∃ cl,(forIn names acc fun x r=>if (x.2==NameKind.free)=true then do let a ← cellOf env x.1;pure (ForInStep.yield ((x.1,a)::r)) else pure (ForInStep.yield r):Sem (List (Str × Addr)))=pure cl ∧
      (∀ y c,cl.lookup y=some c→acc.lookup y=some c∨env.cells.lookup y=some c)∧(∀ y,((∃ c,acc.lookup y=some c)∨(y,NameKind.free)∈names)→∃ c,cl.lookup y=some c)
  | [],acc,_=>⟨acc,by rw [List.forIn_nil],fun _ _ h=>.inl h,fun y h=>by
      rcases h with h | h
      · exact h
      · simp at h⟩
  | (n, k)::r,acc,h=>by
    have hr:∀ z∈r,z.2=.free→∃ c,env.cells.lookup z.1=some c:=fun z hz=>h z (List.mem_cons_of_mem _ hz)
    by_cases hk:k=.free
    · subst hk
      obtain ⟨c,hc⟩:=h (n,.free) List.mem_cons_self rfl
      obtain ⟨cl,e,h1,h2⟩:=closure_aux r ((n,c)::acc) hr
      refine ⟨cl,?_,fun y d hd=>?_,fun y hy=>?_⟩
      · rw [List.forIn_cons]
        have e1:cellOf env n=pure c:=by unfold cellOf;rw [hc]
        simp only [beq_self_eq_true,if_true,e1,pure_bind]
        exact e
      · rcases h1 y d hd with z | z
        · rw [List.lookup_cons] at z
          cases hy:y==n with
          | true =>
            rw [hy] at z
            have:y=n:=by simpa using hy
            subst this
            cases z
            exact .inr hc
          | false=>rw [hy] at z;exact .inl z
        · exact .inr z
      · refine h2 y ?_
        rcases hy with ⟨d,hd⟩ | hy
        · cases q:y==n with
          | true=>exact .inl ⟨c,by rw [List.lookup_cons,q]⟩
          | false=>exact .inl ⟨d,by rw [List.lookup_cons,q];exact hd⟩
        · rcases List.mem_cons.mp hy with z | z
          · cases z
            exact .inl ⟨c,by rw [List.lookup_cons,beq_self_eq_true]⟩
          · exact .inr z
    · obtain ⟨cl,e,h1,h2⟩:=closure_aux r acc hr
      refine ⟨cl,?_,h1,fun y hy=>h2 y ?_⟩
      · rw [List.forIn_cons]
        have:(k==NameKind.free)=false:=by simpa using hk
        simp only [this,Bool.false_eq_true,if_false,pure_bind]
        exact e
      · rcases hy with z | z
        · exact .inl z
        · rcases List.mem_cons.mp z with q | q
          · cases q
            exact absurd rfl hk
          · exact .inr q
theorem closure_of {scope:Scope}{env:Env}(h:∀ z∈scope.names,z.2=.free→∃ c,env.cells.lookup z.1=some c) :
    ∃ cl,closureFor scope env=pure cl∧(∀ y c,cl.lookup y=some c→env.cells.lookup y=some c)∧∀ y,(y,NameKind.free)∈scope.names→∃ c,cl.lookup y=some c:=by
  obtain ⟨cl,e,h1,h2⟩:=closure_aux (env:=env) scope.names [] h
  refine ⟨cl,?_,fun y c hc=>?_,fun y hy=>h2 y (.inr hy)⟩
  · unfold closureFor
    exact (congrArg (fun m:Sem (List (Str × Addr))=>m >>= fun cs=>pure cs) e).trans (pure_bind _ _)
  · rcases h1 y c hc with z | z
    · cases z
    · exact z
def compX (X:Cx)(scope:Scope)(own:List Str)(caps:List Nat)(cl:List (Str × Addr))(C:Addr)(s₃:Shared)(H₃:Hp)(fp:List Addr):Cx :=
  { X with env:=compEnvC scope cl C X.env,N:=own++caps.map fun j=>X.N.getD j Str.empty,s₀:=s₃,H₀:=H₃,outer:=X.stack,stack:=X.stack,ex:=fp,fn:=fun _=>false,pn:=[],xe:=fun _ _=>False }
def capSt (n:Nat)(caps:List Nat)(σ:St):St:=List.replicate n none++caps.map fun j=>σ.getD j none
def compOk (sc osc:Scope):Bool :=
  (sc.kind==.function)&&sc.names.all fun z=>match z.2 with
    | .cell=>false
    | .local=>sc.names.lookup z.1==some .local
    | .free=>osc.names.lookup z.1==some .cell||osc.names.lookup z.1==some .free
    | _=>true
def capOk (X:Cx)(sc:Scope):List Nat→Prop
  | []=>True
  | j::r=>(∃ y,X.N[j]?=some y∧sc.names.lookup y=some .free∧(X.env.scope.names.lookup y=some .cell∨X.env.scope.names.lookup y=some .free))∧capOk X sc r
def gOwn (n:Nat)(g:TG):Prop:=∀ v σ H Q,g v σ H Q→g v σ H fun σ' H'=>(σ'.length=σ.length∧σ'.drop n=σ.drop n)∧Q σ' H'
theorem gOwn_name:gOwn 1 (gName 0):=fun v σ H Q h=>⟨⟨by simp,by cases σ<;>simp⟩,h⟩
def tNoTest:TT:=fun _ H Q=>Q true H
def tComp (n:Nat) (caps:List Nat) (wi:TI) (g:TG) (tt:TT) (te:TE):TE:=fun σ H Q=>wi σ H fun J H1=>∀ D,H1 D=none→∃ W:Nat→Nat→Hp→Prop,(∃ m,W 0 m (upd H1 D (.lst [])))∧∀ i m H2,W i m H2 →
  (J.stop i H2∧Q (.ref D) H2)∨(J.go i H2∧∀ x H3,J.yld i H2 x H3→g x (capSt n caps σ) H3 fun σ4 H4=>tt σ4 H4 fun b H5 =>
    if b=true then te σ4 H5 fun y H6=>∃ xs,H6 D=some (.lst xs)∧xs.length<sizeLine∧∃ m',m'<m∧W (i+1) m' (upd H6 D (.lst (xs++[y]))) else ∃ m',m'<m∧W (i+1) m' H5)
def PTs (X:Cx) (ifs:List Expr) (t:TT):Prop :=
  ∀ (pins:List (Addr × Obj)) (s:Shared) (σ:St) (H:Hp) (Q:Bool→Hp→Prop),Inv X pins σ H s→t σ H Q →
    wpAny (model X.prog X.w) X.A (forIn ifs true fun c r=>if r=true then do let ok ← isTrue c X.env (eval c X.env);pure (ForInStep.yield ok) else pure (ForInStep.yield r)) (TP X pins σ Q) X.xe s
theorem pts_nil {X:Cx}:PTs X [] tNoTest:=fun _ _ _ H _ I h=>wpAny_tests_nil ⟨H,I,h⟩
theorem lookup_relabel_free {env:Env}:∀ {names:List (Str × NameKind)} {x:Str} {k:NameKind},names.lookup x=some k →
    (names.map fun (n,k)=>if (k==NameKind.free&&env.scope.kind==.function&&env.kindOf n==some .cell) then (n,NameKind.cell) else (n,k)).lookup x=some (if (k==NameKind.free&&env.scope.kind==.function&&env.kindOf x==some .cell) then NameKind.cell else k)
  | [],_,_,h=>by simp at h
  | (n,k')::r,x,k,h=>by
    have ih:=@lookup_relabel_free env r x k
    show List.lookup x ((if (k'==NameKind.free&&env.scope.kind==.function&&env.kindOf n==some .cell)=true then (n,NameKind.cell) else (n,k'))::_)=_
    cases hx:x==n with
    | true =>
      simp only [List.lookup_cons,hx] at h
      cases h
      have:x=n:=by simpa using hx
      subst this
      split<;>simp [List.lookup_cons]
    | false =>
      simp only [List.lookup_cons,hx] at h
      split
      · simp only [List.lookup_cons,hx];exact ih h
      · simp only [List.lookup_cons,hx];exact ih h
theorem lookup_relabel_inv {env:Env}:∀ {names:List (Str × NameKind)} {x:Str} {k:NameKind},
    (names.map fun (n,k)=>if (k==NameKind.free&&env.scope.kind==.function&&env.kindOf n==some .cell) then (n,NameKind.cell) else (n,k)).lookup x=some k →
    ∃ k',(x,k')∈names∧(k=k'∨(k'=.free∧k=.cell))
  | [],_,_,h=>by simp at h
  | (n, k')::r,x,k,h=>by
    have ih:=@lookup_relabel_inv env r x k
    rw [List.map_cons] at h
    cases hc:(k'==NameKind.free&&env.scope.kind==.function&&env.kindOf n==some .cell) with
    | true =>
      simp only [hc,if_true,List.lookup_cons] at h
      cases hx:x==n with
      | true =>
        simp only [hx,Option.some.injEq] at h
        have e:x=n:=by simpa using hx
        have:k'=.free:=by
          simp only [Bool.and_eq_true,beq_iff_eq] at hc
          exact hc.1.1
        exact ⟨.free,by rw [e,← this];exact List.mem_cons_self,.inr ⟨rfl,h.symm⟩⟩
      | false =>
        simp only [hx] at h
        obtain ⟨q,m,z⟩:=ih h
        exact ⟨q,List.mem_cons_of_mem _ m,z⟩
    | false =>
      simp only [hc,Bool.false_eq_true,if_false,List.lookup_cons] at h
      cases hx:x==n with
      | true =>
        simp only [hx,Option.some.injEq] at h
        have e:x=n:=by simpa using hx
        exact ⟨k',by rw [e];exact List.mem_cons_self,.inl h.symm⟩
      | false =>
        simp only [hx] at h
        obtain ⟨q,m,z⟩:=ih h
        exact ⟨q,List.mem_cons_of_mem _ m,z⟩
theorem cok_kind {sc osc:Scope}(h:compOk sc osc=true):sc.kind=.function:=by
  unfold compOk at h
  simp only [Bool.and_eq_true,beq_iff_eq] at h
  exact h.1
theorem cok_all {sc osc:Scope}(h:compOk sc osc=true):∀ z∈sc.names,(match z.2 with
    | .cell=>false
    | .local=>sc.names.lookup z.1==some .local
    | .free=>osc.names.lookup z.1==some .cell||osc.names.lookup z.1==some .free
    | _=>true)=true:=by
  unfold compOk at h
  simp only [Bool.and_eq_true] at h
  exact List.all_eq_true.mp h.2
theorem cok_cell {sc osc:Scope}(h:compOk sc osc=true):∀ z∈sc.names,z.2≠.cell:=fun z hz e=>by
  have:=cok_all h z hz
  rw [e] at this
  cases this
theorem cok_loc {sc osc:Scope}(h:compOk sc osc=true):∀ z∈sc.names,z.2=.local→sc.names.lookup z.1=some .local:=fun z hz e=>by
  have:=cok_all h z hz
  rw [e] at this
  simpa using this
theorem cok_free {sc osc:Scope}(h:compOk sc osc=true):∀ z∈sc.names,z.2=.free→osc.names.lookup z.1=some .cell∨osc.names.lookup z.1=some .free:=fun z hz e=>by
  have:=cok_all h z hz
  rw [e] at this
  simpa using this
theorem capOk.get {X:Cx}{sc:Scope}:∀ {caps:List Nat} {j:Nat},capOk X sc caps→j∈caps→∃ y,X.N[j]?=some y∧sc.names.lookup y=some .free∧(X.env.scope.names.lookup y=some .cell∨X.env.scope.names.lookup y=some .free)
  | [],_,_,h=>by simp at h
  | i::r,j,h,hj=>by
    rcases List.mem_cons.mp hj with e | e
    · subst e;exact h.1
    · exact h.2.get e
theorem mem_of_lookupN {x:Str}{k:NameKind}:∀ {l:List (Str × NameKind)},l.lookup x=some k→(x,k)∈l
  | [],h=>by simp at h
  | (n,k')::r,h=>by
    rw [List.lookup_cons] at h
    cases hx:x==n with
    | true =>
      simp only [hx,Option.some.injEq] at h
      have e:x=n:=by simpa using hx
      rw [e,h]
      exact List.mem_cons_self
    | false =>
      simp only [hx] at h
      exact List.mem_cons_of_mem _ (mem_of_lookupN h)
section
variable {X:Cx}{pins:List (Addr × Obj)}{σ:St}{H2:Hp}{s2:Shared}{scope:Scope}{own:List Str}{caps:List Nat}
theorem capSt_get {n:Nat}{caps:List Nat}{σ:St}{i:Nat}{v:V}(h:(capSt n caps σ)[i]?=some (some v)):n≤i∧∃ j,caps[i-n]?=some j∧σ[j]?=some (some v):=by
  unfold capSt at h
  rw [List.getElem?_append] at h
  split at h
  · rename_i hl
    rw [List.length_replicate] at hl
    rw [List.getElem?_replicate,if_pos hl] at h
    cases h
  · rename_i hl
    rw [List.length_replicate] at h hl
    refine ⟨by omega,?_⟩
    rw [List.getElem?_map] at h
    cases q:caps[i-n]? with
    | none=>rw [q] at h;cases h
    | some j =>
      rw [q] at h
      refine ⟨j,rfl,?_⟩
      have h:σ.getD j none=some v:=Option.some.inj h
      rw [List.getD_eq_getElem?_getD] at h
      cases z:σ[j]? with
      | none=>rw [z] at h;cases h
      | some o=>rw [z] at h;exact congrArg some h
theorem Inv.comp {n:Nat} {fp:List Addr} {cl:List (Str × Addr)} {C:Addr} {h4:Heap} {tk:Nat}
    (I2:Inv X pins σ H2 s2) (hok:compOk scope X.env.scope=true) (hcap:capOk X scope caps) (hown:own.length=n)
    (cl1:∀ y c,cl.lookup y=some c→X.env.cells.lookup y=some c) (cl2:∀ y,(y,NameKind.free)∈scope.names→∃ c,cl.lookup y=some c)
    (hfp:∀ b∈fp,FpOk X pins H2 b) (hobj:∀ b∈fp,b<s2.heap.objs.size) (hC:C=s2.heap.objs.size) (hn:h4.Ns C fun _=>none)
    (hsb:∀ b o,s2.heap.get? b=some o→h4.get? b=some o) :
    Inv (compX X scope own caps cl C s2 H2 fp) [] (capSt n caps σ) H2 { s2 with heap:=h4,toks:=tk }:=by
  have hkind:=cok_kind hok
  have ok':(compX X scope own caps cl C s2 H2 fp).Ok:=by
    refine ⟨I2.ok.mod,hkind,I2.ok.glob,I2.ok.blt,by rw [hC];exact Nat.le_refl _,fun x y c h1 h2=>I2.ok.inj x y c (cl1 x c h1) (cl1 y c h2),fun x hx=>?_,fun x c h=>(by cases h),I2.ok.hd,I2.ok.frames,.inl rfl,fun b hb=>⟨?_,fun x c h=>(hfp b hb).2.2.2.2.1 x c (cl1 x c h)⟩,I2.bs,?_,fun b o e hb=>?_,fun b hb hf=>?_,I2.stack,I2.stkFree⟩
    · have:∃ k',(x,k')∈scope.names∧(k'=.cell∨k'=.free):=by
        rcases hx with hx | hx
        · obtain ⟨k',m,z⟩:=lookup_relabel_inv (env:=X.env) (names:=scope.names) (x:=x) (k:=.cell) hx
          rcases z with z | z
          · exact ⟨k',m,.inl z.symm⟩
          · exact ⟨k',m,.inr z.1⟩
        · obtain ⟨k',m,z⟩:=lookup_relabel_inv (env:=X.env) (names:=scope.names) (x:=x) (k:=.free) hx
          rcases z with z | z
          · exact ⟨k',m,.inr z.symm⟩
          · cases z.2
      obtain ⟨k',m,z | z⟩:=this
      · subst z;exact absurd rfl (cok_cell hok _ m)
      · subst z;exact cl2 x m
    · show b≠C
      rw [hC];exact Nat.ne_of_lt (hobj b hb)
    · exact Nat.le_trans I2.ok.bsz (Nat.le_trans I2.ok.above (Nat.le_of_lt I2.lt))
    · rcases (hfp b hb).2.2.2.1 with z | z
      · exact I2.ok.noex b o e z
      · exact absurd (Nat.lt_of_lt_of_le (Heap.lt_size e) (Nat.le_trans I2.ok.bsz z)) (Nat.lt_irrefl _)
    · rcases List.mem_cons.mp (I2.stkSub b hf) with z | z
      · exact (hfp b hb).2.1 z
      · exact (hfp b hb).2.2.1 z
  have hCn:H2 C=none:=I2.hok.fresh (by rw [hC];exact Nat.le_refl _)
  refine ⟨ok',rfl,I2.bare,Un.kept hsb,⟨_,hn,fun i x v e1 e2 e3=>?_⟩,fun x c e=>?_,hCn,fun x c e=>I2.freeC x c (cl1 x c e),fun p hp=>(by cases hp),I2.hok.kept hsb,?_⟩
  · obtain ⟨hi,j,hj,hv⟩:=capSt_get e2
    have e1:(own++caps.map fun j=>X.N.getD j Str.empty)[i]?=some x:=e1
    rw [List.getElem?_append_right (by rw [hown];exact hi),List.getElem?_map,hown,hj] at e1
    have e1:X.N.getD j Str.empty=x:=Option.some.inj e1
    obtain ⟨y,hy,hfree,hout⟩:=hcap.get (List.mem_of_getElem? hj)
    rw [List.getD_eq_getElem?_getD,hy] at e1
    have e1:y=x:=e1
    subst e1
    obtain ⟨m,hm,hl⟩:=I2.loc
    obtain ⟨u,r,l⟩:=hl j y v hy hv (.inr hout)
    refine ⟨u,r,.inr ⟨?_,?_⟩⟩
    · have:=lookup_relabel_free (env:=X.env) hfree
      show (relabel scope X.env).names.lookup y=some .cell∨(relabel scope X.env).names.lookup y=some .free
      unfold relabel
      rw [this]
      split
      · exact .inl rfl
      · exact .inr rfl
    · obtain ⟨c,hc⟩:=cl2 y (mem_of_lookupN hfree)
      refine ⟨c,hc,?_⟩
      rcases l with ⟨k,_⟩ | ⟨_,c',hc',hcell⟩
      · have k:X.env.scope.names.lookup y=some .local:=k
        rcases hout with z | z<;>(rw [k] at z;cases z)
      · rw [cl1 y c hc] at hc'
        cases hc'
        obtain ⟨o,ho,hd⟩:=hcell
        exact ⟨o,hsb _ _ ho,hd⟩
  · obtain ⟨v,o,ho,hd⟩:=I2.cell x c (cl1 x c e)
    exact ⟨v,o,hsb _ _ ho,hd⟩
  · show (capSt n caps σ).length=(own++caps.map fun j=>X.N.getD j Str.empty).length
    unfold capSt
    rw [List.length_append,List.length_append,List.length_replicate,List.length_map,List.length_map,hown]
theorem comp_core {n:Nat} {tg iter elt:Expr} {ifs:List Expr} {pos:Pos} {it:Addr} {fp:List Addr} {tn:Nat→Heap→Prop} {J:It} {cl:List (Str × Addr)} {g:TG} {tt:TT} {te:TE} {E:Value→Shared→Prop} {RR:Value→Addr→Result→Shared→Prop} {Q:VK}
    (hc:X.calm=true) (I2:Inv X pins σ H2 s2) (T:Turn X.prog X.w X.K tg J fp it tn) (st2:tn 0 s2.heap) (f2:∀ b∈fp,FpOk X pins H2 b)
    (hok:compOk scope X.env.scope=true) (hcap:capOk X scope caps) (hown:own.length=n) (hgo:gOwn n g)
    (cl1:∀ y c,cl.lookup y=some c→X.env.cells.lookup y=some c) (cl2:∀ y,(y,NameKind.free)∈scope.names→∃ c,cl.lookup y=some c)
    (hg:∀ C s₃ H₃,PG (compX X scope own caps cl C s₃ H₃ fp) tg g) (ht:∀ C s₃ H₃,PTs (compX X scope own caps cl C s₃ H₃ fp) ifs tt) (he:∀ C s₃ H₃,PE (compX X scope own caps cl C s₃ H₃ fp) elt te)
    (h:∀ D,H2 D=none→∃ W:Nat→Nat→Hp→Prop,(∃ m,W 0 m (upd H2 D (.lst [])))∧∀ i m H2,W i m H2 →
      (J.stop i H2∧Q (.ref D) H2)∨(J.go i H2∧∀ x H3,J.yld i H2 x H3→g x (capSt n caps σ) H3 fun σ4 H4=>tt σ4 H4 fun b H5 =>
        if b=true then te σ4 H5 fun y H6=>∃ xs,H6 D=some (.lst xs)∧xs.length<sizeLine∧∃ m',m'<m∧W (i+1) m' (upd H6 D (.lst (xs++[y]))) else ∃ m',m'<m∧W (i+1) m' H5))
    (hRR:∀ D C s' H' m,s'.heap.Ns C m→Inv X pins σ H' s'→FpOk X pins H' C→Q (.ref D) H'→RR (.ref D) C (.ok .next) s') :
    wpAny (model X.prog X.w) X.A (newList []) (fun acc s₃=>wpAny (model X.prog X.w) X.A (newFunctionEnv scope X.env.globals cl [] X.env.qual none .none (some X.env)) (fun cenv s₄ =>
      codeAny (model X.prog X.w) X.A (.compStart (.ListComp elt [⟨tg,iter,ifs,0⟩] scope pos) 0 (.ref it) acc { cenv with scope:=relabel scope X.env }) (RR acc cenv.locals) s₄) E s₃) E s2:=by
  refine wpAny_newList (items:=[]) (wpAny_newFunctionEnv (cok_cell hok) (by intro y hy;simp at hy) (fun h₁ hns₁ hsb₁=>?_) (cok_kind hok)) (by show 0≤sizeLine;decide)
  obtain ⟨W,⟨m0,w0⟩,turn⟩:=h s2.heap.objs.size I2.fresh
  have I3:Inv X pins σ (upd H2 s2.heap.objs.size (.lst [])) { s2 with heap:=s2.heap.push { cls:=.type "list",data:=.seq ([]:List Value).toArray } }:=I2.lnew (t':=s2.toks) .nil (by show 0≤sizeLine;decide)
  generalize hs3:({ s2 with heap:=s2.heap.push { cls:=.type "list",data:=.seq ([]:List Value).toArray } }:Shared)=s₃ at *
  have e3:s₃.heap.objs.size=s2.heap.objs.size+1:=by rw [← hs3];exact Heap.size_push _ _
  have k23:∀ b o,s2.heap.get? b=some o→s₃.heap.get? b=some o:=fun b o e=>by rw [← hs3];exact Heap.get?_push_of_some _ e
  have hold:∀ b o,s₃.heap.get? b=some o→h₁.get? b=some o:=fun b o e=>(hsb₁.2 b (Nat.ne_of_lt (Heap.lt_size e))).trans (Heap.get?_push_of_some _ e)
  have lt2:∀ b∈fp,b<s2.heap.objs.size:=fun b hb=>by
    obtain ⟨o,e,_⟩:=T.obj _ _ st2 b hb
    exact Heap.lt_size e
  have f3:∀ b∈fp,FpOk X pins (upd H2 s2.heap.objs.size (.lst [])) b:=fun b hb=>by
    obtain ⟨z,r⟩:=f2 b hb
    exact ⟨by rw [upd_ne (Nat.ne_of_lt (lt2 b hb))];exact z,r⟩
  have tn1:tn 0 h₁:=T.keep _ _ _ st2 fun b hb o e=>hold b o (k23 b o e)
  have I4:=Inv.comp (own:=own) (caps:=caps) (n:=n) (fp:=fp) (cl:=cl) (h4:=h₁) (tk:=s₃.toks+([]:List (Str × Value)).length) I3 hok hcap hown cl1 cl2 f3 (fun b hb=>by rw [e3];exact Nat.lt_succ_of_lt (lt2 b hb)) rfl (by simpa using hns₁) hold
  have hXok:=I4.ok
  have loop:codeAny (model X.prog X.w) X.A (.compLoop (.ListComp elt [⟨tg,iter,ifs,0⟩] scope pos) 0 (.ref it) (.ref s2.heap.objs.size) (compEnvC scope cl s₃.heap.objs.size X.env)) (RR (.ref s2.heap.objs.size) s₃.heap.objs.size) { s₃ with heap:=h₁,toks:=s₃.toks+([]:List (Str × Value)).length }:=by
    generalize hX:compX X scope own caps cl s₃.heap.objs.size s₃ (upd H2 s2.heap.objs.size (.lst [])) fp=X' at I4 hXok
    have eP:X'.prog=X.prog:=by rw [← hX];rfl
    have eW:X'.w=X.w:=by rw [← hX];rfl
    have eK:X'.K=X.K:=by rw [← hX];rfl
    have eA:X'.A=X.A:=by rw [← hX];rfl
    have eC:X'.calm=true:=by rw [← hX];exact hc
    have eE:X'.env=compEnvC scope cl s₃.heap.objs.size X.env:=by rw [← hX];rfl
    have eL:X'.env.locals=s₃.heap.objs.size:=by rw [eE];rfl
    have eX:X'.xe=fun _ _=>False:=by rw [← hX];rfl
    have ePn:X'.pn=[]:=by rw [← hX];rfl
    have eEx:X'.ex=fp:=by rw [← hX];rfl
    have eFs:X'.fs=frs X.stack:=by rw [← hX];rfl
    have hg':=hg s₃.heap.objs.size s₃ (upd H2 s2.heap.objs.size (.lst []))
    have ht':=ht s₃.heap.objs.size s₃ (upd H2 s2.heap.objs.size (.lst []))
    have he':=he s₃.heap.objs.size s₃ (upd H2 s2.heap.objs.size (.lst []))
    have eS0:X'.s₀=s₃:=by rw [← hX];rfl
    have eH0:X'.H₀=upd H2 s2.heap.objs.size (.lst []):=by rw [← hX];rfl
    rw [hX] at hg' ht' he'
    have fpOk:∀ {H':Hp} (b:Addr),b∈fp→H' b=none→FpOk X' [] H' b:=fun b hb hn=>by
      refine ⟨hn,(hXok.exf b (eEx ▸ hb)).1,hXok.exfs b (eEx ▸ hb),.inl (eEx ▸ hb),(hXok.exf b (eEx ▸ hb)).2,fun p hp=>?_⟩
      rw [ePn] at hp
      cases hp
    rw [← eP,← eW,← eA,← eE]
    refine compLoop_any (fun n' s'=>∃ i H',Inv X' [] (capSt n caps σ) H' s'∧tn i s'.heap∧(∀ b∈fp,H' b=none)∧W i n' H') ?_ m0 ⟨0,_,I4,tn1,fun b hb=>(f3 b hb).1,w0⟩
    rintro k s5 ⟨i,H5,I5,t5,fr5,w5⟩
    have weaken:∀ {σ':St} {H':Hp} {s':Shared} {pl:List (Addr × Obj)},Inv X' pl σ' H' s'→σ'.length=(capSt n caps σ).length→σ'.drop n=(capSt n caps σ).drop n→Inv X' [] (capSt n caps σ) H' s':=fun {σ' H' s' pl} I' hl hd=>by
      have I'':Inv X' [] σ' H' s':=I'.pins_of fun p hp=>by cases hp
      refine I''.weak hl.symm fun j v e=>?_
      have hj:=(capSt_get e).1
      have q1:(σ'.drop n)[j-n]?=σ'[j]?:=by rw [List.getElem?_drop];congr 1;omega
      have q2:((capSt n caps σ).drop n)[j-n]?=(capSt n caps σ)[j]?:=by rw [List.getElem?_drop];congr 1;omega
      rw [← q1,hd,q2]
      exact e
    rcases turn i k H5 w5 with ⟨stop,qn⟩ | ⟨go,step⟩
    · have z:=T.done X' eP eW eK eC i [] s5 (capSt n caps σ) H5 (fun _ _=>False) I5 (fun b hb=>fpOk b hb (fr5 b hb)) t5 stop
      rw [← eP,← eW] at z
      refine thn z fun r s6 ⟨hr,I6⟩=>?_
      subst hr
      obtain ⟨m,hm,_⟩:=I6.loc
      have ub:Un (frs X.stack) fp (upd H2 s2.heap.objs.size (.lst [])) H5 s₃.heap s6.heap:=by
        have z:=I6.base
        rw [eFs,eEx,eS0,eH0] at z
        exact z
      have u23:Un (frs X.stack) fp H2 (upd H2 s2.heap.objs.size (.lst [])) s2.heap s₃.heap:=Un.laid k23 (Nat.le_refl _) I2.fresh
      have os6:s6.os=s2.os:=by
        rw [I6.os,eS0,← hs3]
      have hokk:HOk X.prog X.w H5 s6.heap:=by
        have z:=I6.hok
        rw [eP,eW] at z
        exact z
      have Iend:Inv X pins σ H5 s6:=I2.call' os6 (u23.trans ub) hokk I6.bare fun b hb=>⟨(f2 b hb).2.2.2.1,(f2 b hb).2.1,(f2 b hb).2.2.2.2.1,(f2 b hb).2.2.2.2.2⟩
      have hCn:H5 s₃.heap.objs.size=none:=by
        have z:=I6.free
        rw [eL] at z
        exact z
      rw [eL] at hm
      exact hRR _ _ s6 H5 m hm Iend (I3.fpOk (Nat.le_refl _) hCn) qn
    · have z:=T.item X' eP eW eK eC i [] s5 (capSt n caps σ) H5 (fun _ _=>False) I5 (fun b hb=>fpOk b hb (fr5 b hb)) t5 go
      rw [← eP,← eW] at z
      refine thn z fun r s6 ⟨u,hr,h6⟩=>?_
      subst hr
      refine thn h6 fun _ s7 ⟨x,H7,I7,r7,y7,t7,fr7⟩=>?_
      have I7':=I7.pinned (fun b hb=>fpOk b hb (fr7 b hb)) (T.obj _ _ t7)
      have pinD:∀ {σ':St} {H':Hp} {s':Shared},Inv X' ([]++pinsAt fp s7.heap) σ' H' s'→tn (i+1) s'.heap∧∀ b∈fp,H' b=none:=fun {σ' H' s'} I'=>by
        have pin:∀ b∈fp,∀ o,s7.heap.get? b=some o→s'.heap.get? b=some o∧H' b=none:=fun b hb o e=>by
          have z:=I'.pin (b,o) (List.mem_append_right _ (List.mem_append_right _ (mem_pinsAt hb e)))
          exact ⟨z.1,z.2.1⟩
        refine ⟨T.keep _ _ _ t7 fun b hb o e=>(pin b hb o e).1,fun b hb=>?_⟩
        obtain ⟨o,e,_⟩:=T.obj _ _ t7 b hb
        exact (pin b hb o e).2
      have xf:∀ {α:Type} {t:Sem α} {Q':α→Shared→Prop} {s':Shared},wpAny (model X'.prog X'.w) X'.A t Q' X'.xe s'→wpAny (model X'.prog X'.w) X'.A t Q' (fun _ _=>False) s':=fun z=>by rw [eX] at z;exact z
      refine thn (xf (hg' _ s7 (capSt n caps σ) H7 x u _ I7' r7 (hgo _ _ _ _ (step x H7 y7)))) fun _ s8 ⟨σ8,H8,I8,⟨l8,d8⟩,q8⟩=>?_
      refine thn (xf (ht' _ s8 σ8 H8 _ I8 q8)) fun b s9 ⟨H9,I9,q9⟩=>?_
      cases b with
      | false =>
        rw [if_neg Bool.false_ne_true]
        obtain ⟨m',hm,w9⟩:=(show ∃ m',m'<k∧W (i+1) m' H9 by simpa using q9)
        obtain ⟨t9,fr9⟩:=pinD I9
        exact ⟨m',hm,i+1,H9,weaken I9 l8 d8,t9,fr9,w9⟩
      | true =>
        rw [if_pos rfl]
        rw [if_pos rfl] at q9
        refine thn (xf (he' _ s9 σ8 H9 _ I9 q9)) fun v s10 ⟨y,H10,I10,r10,xs,hD,hlen,m',hm,w10⟩=>?_
        refine thn (xf (mt_append _ s10 σ8 H10 (.ref s2.heap.objs.size) [y] (.ref s2.heap.objs.size) [v] (fun _ H'=>H'=upd H10 s2.heap.objs.size (.lst (xs++[y]))) I10 rfl (.cons r10 .nil) ⟨_,xs,y,rfl,rfl,hD,hlen,rfl⟩)) fun _ s11 ⟨_,H11,I11,_,e11⟩=>?_
        subst e11
        obtain ⟨t11,fr11⟩:=pinD I11
        exact ⟨m',hm,i+1,_,weaken I11 l8 d8,t11,fr11,w10⟩
  exact codeAny_compStart_list loop (T.self _ 0 _ _ _ tn1 loop)
theorem Inv.closure (I:Inv X pins σ H2 s2)(hok:compOk scope X.env.scope=true):∃ cl,closureFor scope X.env=pure cl∧(∀ y c,cl.lookup y=some c→X.env.cells.lookup y=some c)∧∀ y,(y,NameKind.free)∈scope.names→∃ c,cl.lookup y=some c :=
  closure_of fun z hz e=>I.ok.has z.1 (cok_free hok z hz e)
end
section
variable {X:Cx}{tg iter elt:Expr}{ifs:List Expr}{scope:Scope}{pos:Pos}{wi:TI}{g:TG}{tt:TT}{te:TE}{n:Nat}
theorem pe_comp (own:List Str)(caps:List Nat)(hc:X.calm=true)(hi:PI X tg iter wi)(hg:∀ cl C s₃ H₃ fp,PG (compX X scope own caps cl C s₃ H₃ fp) tg g)(ht:∀ cl C s₃ H₃ fp,PTs (compX X scope own caps cl C s₃ H₃ fp) ifs tt)
    (he:∀ cl C s₃ H₃ fp,PE (compX X scope own caps cl C s₃ H₃ fp) elt te) (hcap:capOk X scope caps) (hgo:gOwn own.length g) (hok:compOk scope X.env.scope=true:=by rfl)
    (hs:∀ x,foldedSetIterable iter X.env x=pure x:=by intro _;rfl):PE X (.ListComp elt [⟨tg,iter,ifs,0⟩] scope pos) (tComp own.length caps wi g tt te):=by
  intro pins s σ H Q I h
  obtain ⟨cl,hcl,cl1,cl2⟩:=I.closure hok
  rw [eval_ListComp]
  refine wpAny_comprehension_free (use:=none) rfl hs hcl (cok_kind hok) (cok_loc hok) (thn (hi pins s σ H _ I h) fun v s1 h1=>thn h1 fun itv s2 h2=>?_)
  obtain ⟨it,fp,tn,J,H2,e,I2,T,st2,f2,h3⟩:=h2
  subst e
  refine comp_core (RR:=fun acc C=>compPost (model X.prog X.w) X.A X.xe none (EP X pins σ Q) acc C) (own:=own) (caps:=caps) (n:=own.length) (Q:=Q) hc I2 T st2 f2 hok hcap rfl hgo cl1 cl2 (fun C s₃ H₃=>hg cl C s₃ H₃ fp) (fun C s₃ H₃=>ht cl C s₃ H₃ fp) (fun C s₃ H₃=>he cl C s₃ H₃ fp) h3 ?_
  intro D C s' H' m hm I' hC q
  refine ⟨m,hm,fun h' hsb=>⟨.ref D,H',?_,rfl,q⟩⟩
  exact I'.turned (it:=C) (t':=s'.toks) (fun b o hb e=>(hsb.2 b hb).trans e) hC.1 hC.2.1 hC.2.2.2.1 hC.2.2.2.2.1 hC.2.2.2.2.2
theorem ps_setcomp {i:Nat}{x:Str}{pos' spos:Pos}(own:List Str)(caps:List Nat)(hN:X.N.Nodup)(hx0:X.N[i]?=some x)(hx:Loc X.env.scope x)(hc:X.calm=true)(hi:PI X tg iter wi)(hg:∀ cl C s₃ H₃ fp,PG (compX X scope own caps cl C s₃ H₃ fp) tg g)(ht:∀ cl C s₃ H₃ fp,PTs (compX X scope own caps cl C s₃ H₃ fp) ifs tt)
    (he:∀ cl C s₃ H₃ fp,PE (compX X scope own caps cl C s₃ H₃ fp) elt te) (hcap:capOk X scope caps) (hgo:gOwn own.length g) (hok:compOk scope X.env.scope=true:=by rfl)
    (hs:∀ x,foldedSetIterable iter X.env x=pure x:=by intro _;rfl) (hsw:swapsWith (.ListComp elt [⟨tg,iter,ifs,0⟩] scope pos) (some (.Name x pos')) spos.line X.env=pure true:=by rfl)
    (hf:X.fn x=true∨X.env.scope.names.lookup x=some .local:=by first | exact .inl rfl | exact .inr rfl | assumption):PS X (.Assign [.Name x pos'] (.ListComp elt [⟨tg,iter,ifs,0⟩] scope pos) spos) (tAsg (tComp own.length caps wi g tt te) (gName i)):=by
  intro pins s σ H D I h
  obtain ⟨cl,hcl,cl1,cl2⟩:=I.closure hok
  rw [exec_Assign_Name_used _ _ _ _ hsw]
  refine wpAny_bind (wpAny_standAt (wpAny_bind ?_))
  show wpAny _ _ (do let _ ← comprehension (.ListComp elt [⟨tg,iter,ifs,0⟩] scope pos) scope X.env _ (newList []) false (eval iter X.env) (some (assign (.Name x pos') X.env))) _ _ s
  refine wpAny_bind (wpAny_mono (wpAny_comprehension_free (use:=some (assign (.Name x pos') X.env)) (Q:=fun _ s'=>SP X pins D .next s') rfl hs hcl (cok_kind hok) (cok_loc hok)
    (thn (hi pins s σ H _ I h) fun v s1 h1=>thn h1 fun itv s2 h2=>?_)) (fun _ s' hq=>wpAny_pure (wpAny_pure hq)) fun _ _ e=>e)
  obtain ⟨it,fp,tn,J,H2,e,I2,T,st2,f2,h3⟩:=h2
  subst e
  refine comp_core (RR:=fun acc C=>compPost (model X.prog X.w) X.A X.xe (some (assign (.Name x pos') X.env)) (fun _ s'=>SP X pins D .next s') acc C) (own:=own) (caps:=caps) (n:=own.length) (Q:=fun x H1=>gName i x σ H1 D.nx) hc I2 T st2 f2 hok hcap rfl hgo cl1 cl2 (fun C s₃ H₃=>hg cl C s₃ H₃ fp) (fun C s₃ H₃=>ht cl C s₃ H₃ fp) (fun C s₃ H₃=>he cl C s₃ H₃ fp) h3 ?_
  intro A' C s' H' m hm I' hC q
  obtain ⟨o,es,ep,ho,hd,r⟩:=id hm
  have I'':Inv X (pins++[(C,o)]) σ H' s':=I'.pins_of fun p hp=>by
    rcases List.mem_append.mp hp with z | z
    · exact I'.pin p (List.mem_append_right _ z)
    · have e:p=(C,o):=by simpa using z
      subst e
      exact ⟨ho,hC.1,hC.2.1,hC.2.2.1,fun v e=>by rw [hd] at e;cases e⟩
  refine thn (pg_name hN hx0 hx hf _ s' σ H' (.ref A') (.ref A') _ I'' rfl q) fun _ s2' ⟨σ2,H3',I3,q3⟩=>?_
  have p3:=I3.pin (C,o) (List.mem_append_right _ (List.mem_append_right _ (by simp)))
  refine ⟨m,⟨o,es,ep,p3.1,hd,r⟩,fun h' hsb=>⟨σ2,H3',?_,q3⟩⟩
  exact (I3.unpinned (pl:=[(C,o)])).turned (it:=C) (t':=s2'.toks) (fun b o hb e=>(hsb.2 b hb).trans e) p3.2.1 p3.2.2.1 hC.2.2.2.1 hC.2.2.2.2.1 hC.2.2.2.2.2
end
end L2
namespace L2
open PySem PySem.Spec PyProof.Rows
theorem boot_isi:bootBuiltins "isinstance"=some (.builtin "isinstance"):=by decide +kernel
section
variable {X:Cx}
def vOf:V→Option Value
  | .ty n=>some (.type n)
  | .ref a=>some (.ref a)
  | _=>none
def rIsi (K:PySem.W.Frag):List V→Hp→VK→Prop:=fun xs H Q=>∃ x y c t b,xs=[x,y]∧vOf y=some c∧TyOf K H x t∧PySem.W.kitOne K t c=some b∧Q (.bl b) H
theorem call_isi:CallR X (.builtin "isinstance") (rIsi X.K):=by
  intro pins s σ H xs us Q I r h
  obtain ⟨x,y,c,t,b,rfl,hy,ht,hk,q⟩:=h
  obtain ⟨u,v,rfl,ru,rv⟩:=r.two
  have ev:v=c:=by
    cases y with
    | ty n=>cases (show v=Value.type n from rv);exact Option.some.inj hy
    | ref a=>cases (show v=Value.ref a from rv);exact Option.some.inj hy
    | _=>cases hy
  subst ev
  exact isinst_ok I ru ht hk fun tk=>⟨.bl b,H,I.tok _,rfl,q⟩
def CShl (i j:Int):Prop:=0≤j∧j≤1000000∧i.natAbs<2^1000
end
def LoopJ (J:It)(g:TG)(tb:TS)(D:Ends)(σ:St)(H:Hp):Prop:=∃ W:Nat→Nat→St→Hp→Prop,(∃ m,W 0 m σ H)∧∀ i m σ H,W i m σ H →
  (J.stop i H∧D.nx σ H)∨(J.go i H∧∃ N:St→Hp→Prop,(∀ σ' H',N σ' H'→∃ m',m'<m∧W (i+1) m' σ' H')∧∀ x H',J.yld i H x H'→g x σ H' fun σ2 H2=>tb { D with nx:=N,ct:=N,bk:=D.nx } σ2 H2)
theorem tFor_ap {wi:TI}{g:TG}{tb:TS}{D:Ends}{σ:St}{H:Hp}:tFor wi g tb D σ H=wi σ H fun J H1=>LoopJ J g tb D σ H1:=rfl
theorem loopR {lo:Int}{n:Nat}{g:TG}{tb:TS}{D:Ends}{σ:St}{H:Hp}(Pv:Nat→St→Hp→Prop)(h0:Pv 0 σ H)
    (hs:∀ i σ H,i<n→Pv i σ H→g (.int (lo+i)) σ H fun σ2 H2=>tb { D with nx:=Pv (i+1),ct:=Pv (i+1),bk:=D.nx } σ2 H2) (hd:∀ σ H,Pv n σ H→D.nx σ H):LoopJ (Itr lo n) g tb D σ H:=for_range Pv h0 hs hd
def CompJ (J:It) (n:Nat) (caps:List Nat) (g:TG) (tt:TT) (te:TE) (σ:St) (H1:Hp) (Q:VK):Prop:=∀ D,H1 D=none→∃ W:Nat→Nat→Hp→Prop,(∃ m,W 0 m (upd H1 D (.lst [])))∧∀ i m H2,W i m H2 →
  (J.stop i H2∧Q (.ref D) H2)∨(J.go i H2∧∀ x H3,J.yld i H2 x H3→g x (capSt n caps σ) H3 fun σ4 H4=>tt σ4 H4 fun b H5 =>
    if b=true then te σ4 H5 fun y H6=>∃ xs,H6 D=some (.lst xs)∧xs.length<sizeLine∧∃ m',m'<m∧W (i+1) m' (upd H6 D (.lst (xs++[y]))) else ∃ m',m'<m∧W (i+1) m' H5)
theorem tComp_ap {n:Nat}{caps:List Nat}{wi:TI}{g:TG}{tt:TT}{te:TE}{σ:St}{H:Hp}{Q:VK}:tComp n caps wi g tt te σ H Q=wi σ H fun J H1=>CompJ J n caps g tt te σ H1 Q:=rfl
theorem compPure {J:It} {m n:Nat} {caps:List Nat} {g:TG} {tt:TT} {te:TE} {σ:St} {H1:Hp} {Q:VK} (x:Nat→V) (p:Nat→Bool) (f:Nat→V) (hn:n≤1000000)
    (hstop:∀ H2,Same H1 H2→J.stop n H2) (hgo:∀ i H2,i<n→Same H1 H2→J.go i H2) (hy:∀ i H2 v H3,i<n→Same H1 H2→J.yld i H2 v H3→v=x i∧H3=H2)
    (hg:∀ i H2 R,i<n→Same H1 H2→(∀ σ4,σ4=(capSt m caps σ).set 0 (some (x i))→R σ4 H2)→g (x i) (capSt m caps σ) H2 R)
    (ht:∀ i H2 R,i<n→Same H1 H2→R (p i) H2→tt ((capSt m caps σ).set 0 (some (x i))) H2 R)
    (he:∀ i H2 R,i<n→p i=true→Same H1 H2→R (f i) H2→te ((capSt m caps σ).set 0 (some (x i))) H2 R)
    (hq:∀ D,H1 D=none→Q (.ref D) (upd H1 D (.lst (((List.range n).filter p).map f)))):CompJ J m caps g tt te σ H1 Q:=by
  intro D hD
  have same:∀ l,Same H1 (upd H1 D (.lst l)):=fun l b o e=>by rw [upd_ne (ne_of_none e hD)];exact e
  refine ⟨fun i k H2=>k=n-i∧i≤n∧H2=upd H1 D (.lst (((List.range i).filter p).map f)),⟨n,rfl,Nat.zero_le _,rfl⟩,?_⟩
  rintro i k H2 ⟨rfl,hi,rfl⟩
  by_cases hlt:i<n
  · refine .inr ⟨hgo i _ hlt (same _),fun v H3 y=>?_⟩
    obtain ⟨rfl,rfl⟩:=hy i _ v H3 hlt (same _) y
    refine hg i _ _ hlt (same _) fun σ4 e4=>?_
    subst e4
    refine ht i _ _ hlt (same _) ?_
    have step:(List.range (i+1)).filter p=(List.range i).filter p++if p i=true then [i] else []:=by
      rw [List.range_succ,List.filter_append]
      congr 1
      cases hp:p i<;>simp [hp]
    cases hp:p i with
    | true =>
      rw [if_pos rfl]
      refine he i _ _ hlt hp (same _) ⟨_,upd_same,?_,n-(i+1),by omega,rfl,hlt,?_⟩
      · rw [List.length_map]
        refine Nat.lt_of_le_of_lt (List.length_filter_le _ _) ?_
        rw [List.length_range,sizeLine_eq]
        omega
      · rw [upd_upd,step,hp,if_pos rfl,List.map_append]
        rfl
    | false =>
      rw [if_neg Bool.false_ne_true]
      refine ⟨n-(i+1),by omega,rfl,hlt,?_⟩
      rw [step,hp,if_neg Bool.false_ne_true,List.append_nil]
  · have e:i=n:=by omega
    subst e
    exact .inl ⟨hstop _ (same _),hq D hD⟩
theorem compR {lo:Int}{m n:Nat}{caps:List Nat}{tt:TT}{te:TE}{σ:St}{H1:Hp}{Q:VK}(p:Nat→Bool)(f:Nat→V)(hn:n≤1000000)
    (ht:∀ i H2 R,i<n→Same H1 H2→R (p i) H2→tt ((capSt m caps σ).set 0 (some (.int (lo+i)))) H2 R)
    (he:∀ i H2 R,i<n→p i=true→Same H1 H2→R (f i) H2→te ((capSt m caps σ).set 0 (some (.int (lo+i)))) H2 R)
    (hq:∀ D,H1 D=none→Q (.ref D) (upd H1 D (.lst (((List.range n).filter p).map f)))):CompJ (Itr lo n) m caps (gName 0) tt te σ H1 Q :=
  compPure (fun i=>.int (lo+i)) p f hn (fun _ _=>Nat.le_refl _) (fun _ _ h _=>h) (fun _ _ _ _ _ _ h=>⟨h.2,h.1⟩) (fun _ _ _ _ _ h=>h _ rfl) ht he hq
section
variable {D:Ends}{σ:St}{H:Hp}{Q:VK}{QT:Bool→Hp→Prop}{QA:List V→Hp→Prop}{ta tb tc:TE}{t u:TS}{tA tB':TT}{te:TE}{tl:TA}{r r':R2}
theorem tSeq_ap:tSeq t u D σ H=t { D with nx:=u D } σ H:=rfl
theorem tNext_ap:tNext D σ H=D.nx σ H:=rfl
theorem tAsg_ap {g:TG}:tAsg te g D σ H=te σ H fun x H1=>g x σ H1 D.nx:=rfl
theorem gName_ap {i:Nat}{v:V}{R:St→Hp→Prop}:gName i v σ H R=R (σ.set i (some v)) H:=rfl
theorem tVar_ap {i:Nat}:tVar i σ H Q=∃ v,σ[i]?=some (some v)∧Q v H:=rfl
theorem tC_ap {v:V}:tC v σ H Q=Q v H:=rfl
theorem tOp_ap:tOp r ta tb σ H Q=ta σ H fun x H1=>tb σ H1 fun y H2=>r x y H2 Q:=rfl
theorem rI_ap {C:Int→Int→Prop}{g:Int→Int→V}{x y:V}:rI C g x y H Q=∃ i j,x=.int i∧y=.int j∧C i j∧Q (g i j) H:=rfl
theorem rI0_ap {g:Int→Int→V}{x y:V}:rI0 g x y H Q=∃ i j,x=.int i∧y=.int j∧Q (g i j) H:=rfl
theorem rEq_ap {x y:V}:rEq x y H Q=(scal x y=true∧Q (.bl (decide (x=y))) H):=rfl
theorem rNe_ap {x y:V}:rNe x y H Q=(scal x y=true∧Q (.bl (!decide (x=y))) H):=rfl
theorem scal_ii {i j:Int}:scal (.int i) (.int j)=true:=rfl
theorem scal_bb {i j:Bool}:scal (.bl i) (.bl j)=true:=rfl
theorem scal_ss {i j:Str}:scal (.str i) (.str j)=true:=rfl
theorem tRet_ap:tRet te D σ H=te σ H D.rt:=rfl
theorem tDrop_ap:tDrop te D σ H=te σ H fun _ H1=>D.nx σ H1:=rfl
theorem tIfS_ap:tIfS tA t u D σ H=tA σ H fun b H1=>if b=true then t D σ H1 else u D σ H1:=rfl
theorem tTest_ap:tTest te σ H QT=te σ H fun x H'=>∃ k,x=.bl k∧QT k H':=rfl
theorem tB_ap:tB te σ H QT=te σ H fun x H1=>∃ c,x=.bl c∧QT c H1:=rfl
theorem tOr_ap:tOr tA tB' σ H QT=tA σ H fun c H1=>if c=true then QT true H1 else tB' σ H1 QT:=rfl
theorem tNot_ap:tNot tA σ H QT=tA σ H fun c H1=>QT (!c) H1:=rfl
theorem tAndV_ap:tAndV ta tb σ H Q=ta σ H fun x H1=>∃ c,x=.bl c∧if c=true then tb σ H1 Q else Q (.bl false) H1:=rfl
theorem tNotV_ap:tNotV ta σ H Q=ta σ H fun x H1=>∃ c,x=.bl c∧Q (.bl (!c)) H1:=rfl
theorem tCall_ap {sp:Sp}{dvs:List V}{E:XK}:tCall sp dvs E tl σ H Q=tl σ H fun vs H1=>sp (vs++dvs) H1 Q E:=rfl
theorem tNil_ap:tNil σ H QA=QA [] H:=rfl
theorem tCons_ap:tCons ta tl σ H QA=ta σ H fun x H1=>tl σ H1 fun xs H2=>QA (x::xs) H2:=rfl
theorem tLst_ap:tLst tl σ H Q=tl σ H fun xs H1=>xs.length≤sizeLine∧∀ p,H1 p=none→Q (.ref p) (upd H1 p (.lst xs)):=rfl
theorem tCB_ap {r:List V→Hp→VK→Prop}:tCB r tl σ H Q=tl σ H fun vs H1=>r vs H1 Q:=rfl
theorem tBM_ap {K:PySem.W.Frag}{T:String}{r:V→List V→Hp→VK→Prop}:tBM K T r te tl σ H Q=te σ H fun x H1=>tyV K T x H1∧tl σ H1 fun xs H2=>r x xs H2 Q:=rfl
theorem tyV_int {K:PySem.W.Frag}{i:Int}:tyV K "int" (.int i) H:=rfl
theorem tyV_list {K:PySem.W.Frag}{p:Addr}:tyV K "list" (.ref p) H↔∃ xs,SqL K H p xs:=by
  unfold tyV
  simp
theorem rIxL_ap {K:PySem.W.Frag}{x y:V}:rIxL K x y H Q=∃ p xs i v,x=.ref p∧y=.int i∧SqL K H p xs∧atI xs i=some v∧Q v H:=rfl
theorem rIxS_ap {x y:V}:rIxS x y H Q=∃ z i c,x=.str z∧y=.int i∧z.length≤sizeLine∧atI z.cps.toList i=some c∧Q (.str ⟨#[c]⟩) H:=rfl
theorem rAppend_ap {x:V}{vs:List V}:rAppend x vs H Q=∃ l xs y,x=.ref l∧vs=[y]∧H l=some (.lst xs)∧xs.length<sizeLine∧Q .non (upd H l (.lst (xs++[y]))):=rfl
theorem rCat_ap {x y:V}:rCat x y H Q=∃ l b xs zs,x=.ref l∧y=.ref b∧H l=some (.lst xs)∧H b=some (.lst zs)∧xs.length+zs.length≤sizeLine∧∀ p,H p=none→Q (.ref p) (upd H p (.lst (xs++zs))):=rfl
theorem iRng1_ap {R:It→Hp→Prop}:iRng1 tl σ H R=tl σ H fun vs H1=>∃ j:Int,vs=[.int j]∧-(2^62)≤j∧j<2^62∧R (Itr 0 j.toNat) H1:=rfl
theorem tNoTest_ap:tNoTest σ H QT=QT true H:=rfl
theorem rIsi_int {K:PySem.W.Frag}{i:Int}:rIsi K [.int i,.ty "int"] H Q↔Q (.bl true) H :=
  ⟨fun ⟨x,y,c,t,b,e,hy,ht,hk,q⟩=>by
    cases e
    cases hy
    cases ht
    cases hk
    exact q,fun q=>⟨_,_,_,_,true,rfl,rfl,.int i,rfl,q⟩⟩
theorem rIsi_intb {K:PySem.W.Frag}{i:Int}:rIsi K [.int i,.ty "bool"] H Q↔Q (.bl false) H :=
  ⟨fun ⟨x,y,c,t,b,e,hy,ht,hk,q⟩=>by
    cases e
    cases hy
    cases ht
    cases hk
    exact q,fun q=>⟨_,_,_,_,false,rfl,rfl,.int i,rfl,q⟩⟩
end
end L2
namespace L2
open PySem PySem.Spec PyProof.Rows
def FnAt (P:Program)(w:World)(K:PySem.W.Frag)(mg:Str→Option Value)(base:Heap)(x:Str)(ps:List Str)(k:Nat)(sp:Sp):Prop :=
  ∃ f fd,FnOk P w K mg base CX0 k f fd ps sp∧mg x=some (.ref f)∧PySem.W.keepIn K (.ref f)=true∧Binds K fd ps []
def DefAt (K:PySem.W.Frag)(mg:Str→Option Value)(x:Str)(st:Stmt)(ps:List Str):Prop:=∃ f fd,Fun K x x st f fd∧mg x=some (.ref f)∧Binds K fd ps []
section
variable {P:Program}{w:World}{K:PySem.W.Frag}{mg:Str→Option Value}{base:Heap}
theorem FnAt.of {x:Str}{st:Stmt}{N ps:List Str}{k:Nat}{sp:Sp}(d:DefAt K mg x st ps)(S:FnScope N ps (defScope st))(len:∀ vs H Q E,sp vs H Q E→vs.length=ps.length)
    (hbody:∀ (f:Addr) (cdv:Value) (A:Around) (outer:List Env) (s:Shared) (H:Hp) (vs:List V) (Q:VK) (E:XK),Room k (A.deeper (envOfC x (defScope st) s.heap.objs.size f cdv))→sp vs H Q E →
      ∃ t,PSs (cxOf CX0 P w K mg base N x (defScope st) f cdv A outer s H E).nox (defBody st) t∧t { nx:=fun _ H'=>Q .non H',rt:=Q } (start N vs) H):FnAt P w K mg base x ps (k+1) sp:=by
  obtain ⟨f,fd,F,m,b⟩:=d
  exact ⟨f,fd,F.ok S len (hbody f),m,F.kp,b⟩
theorem defAt_mk {h:Heap}{x:Str}{st:Stmt}{ps:List Str}{f:Addr}{oc:Value}{od an:Option Addr}{osl:Array (Option Value)}{kV doc pm cdv ct:Value}(X:K.In h)(G:h.Ns mainGlobals mg)(a:PySem.W.nsIn K mainGlobals x=some (some (.ref f)))
    (l:K.lookup f=some ⟨oc,od,.func (PySem.W.fnOf x x (defArgs st) (defBody st) (defScope st) .none kV doc pm an cdv ct),osl⟩) (c:PySem.W.codeIn K cdv x=true) (k:PySem.W.keepIn K (.ref f)=true)
    (hb:∀ (kV doc pm:Value) (an:Option Addr) (cdv ct:Value) (us:List Value),us.length=ps.length→bindArgs (PySem.W.fnOf x x (defArgs st) (defBody st) (defScope st) .none kV doc pm an cdv ct) ⟨us,[]⟩=pure (ps.zip us)):DefAt K mg x st ps :=
  ⟨f,_,fun_mk l c k,PySem.W.mg_of X G a,(fun_mk l c k).binds hb⟩
end
section
variable {X:Cx}{x:Str}{ps:List Str}{k:Nat}{sp:Sp}{e:Expr}{es:List Expr}{t:TA}{p pos:Pos}
theorem pe_callF (F:FnAt X.prog X.w X.K X.mg X.base x ps k sp)(hr:Room k X.A)(hg:Gl X x)(ha:PA X (e::es) t)
    (he:starEach (e::es) X.env=(false,eval e X.env)::starEach es X.env:=by rfl) (hdb:(x==("__debug__":Str))=false:=by decide) (hpl:(backTo pos (starEach es X.env)).any (·.1)=false:=by rfl):PE X (.Call (.Name x p) (e::es) [] pos) (tCall sp [] E0 t):=by
  obtain ⟨f,fd,G,m,kp,b⟩:=F
  exact pe_call G hr hg m kp b .nil pass0 ha hdb he hpl
end
section
variable {X:Cx}
def rLen (K:PySem.W.Frag):List V→Hp→VK→Prop:=fun xs H Q=>∃ p ys,xs=[.ref p]∧(SqL K H p ys∨SqT K H p ys)∧Q (.int ys.length) H
theorem ix_listK (K:PySem.W.Frag)(h:X.K=K:=by rfl):IxR X (rIxL K):=h ▸ ix_list
theorem call_isiK (K:PySem.W.Frag)(h:X.K=K:=by rfl):CallR X (.builtin "isinstance") (rIsi K):=h ▸ call_isi
theorem call_lenK (K:PySem.W.Frag)(h:X.K=K:=by rfl):CallR X (.builtin "len") (rLen K):=by subst h;exact call_len_seq
theorem rLen_ap {K:PySem.W.Frag}{xs:List V}{H:Hp}{Q:VK}:rLen K xs H Q=∃ p ys,xs=[.ref p]∧(SqL K H p ys∨SqT K H p ys)∧Q (.int ys.length) H:=rfl
end
section
variable {X:Cx}{tg l o e:Expr}{es:List Expr}{tl to:TE}{t:TA}{name:Str}{apos cpos:Pos}{T id:String}{r:V→List V→Hp→VK→Prop}
theorem pe_bmK (K:PySem.W.Frag)(pa:PlainAttrs T)(slot:Slot T name id)(hty:typeOf (.builtin id)=pure (.type "method_descriptor"))(hm:MtR X id r)(ho:PE X o to)(ha:PA X (e::es) t)(hK:X.K=K:=by rfl)
    (hbase:attributeBase o name X.env (eval o X.env)=eval o X.env:=by rfl)
    (hfew:((backTo cpos (starEach (e::es) X.env)).all (fun x=>!x.1)&&(backToKw cpos (keywordEach [] X.env)).all (fun x=>x.1.isSome)
      && decide ((e::es).length+([]:List Keyword).length+(if ([]:List Keyword).isEmpty then 0 else 1)<30))=true:=by rfl)
    (hline:(apos.endLine==cpos.line)=true:=by rfl) (hs:starEach (e::es) X.env=(false,eval e X.env)::starEach es X.env:=by rfl) (hplain:(backTo cpos (starEach es X.env)).any (·.1)=false:=by rfl) :
    PE X (.Call (.Attribute o name apos) (e::es) [] cpos) (tBM K T r to t):=hK ▸ pe_bm pa slot hty hm ho ha hbase hfew hline hs hplain
end
section
variable {X:Cx}{st:Stmt}{rest:List Stmt}{t u:TS}
def tCut (t u:TS):TS:=fun D σ H=>∃ Mid:St→Hp→Prop,t { D with nx:=Mid } σ H∧∀ σ' H',Mid σ' H'→u D σ' H'
theorem pss_cut (h1:PS X st t)(h2:PSs X rest u):PSs X (st::rest) (tCut t u):=by
  intro pins s σ H D I h
  obtain ⟨Mid,h,hm⟩:=h
  refine wpAny_execs_cons (thn (h1 pins s σ H _ I h) fun f s1 q=>?_)
  cases f with
  | next =>
    obtain ⟨σ1,H1,I1,q1⟩:=q
    exact h2 pins s1 σ1 H1 D I1 (hm σ1 H1 q1)
  | brk=>exact q
  | cont=>exact q
  | ret v=>exact q
end
theorem rep0:List.replicate 0 (none:Option V)=[]:=rfl
theorem rep1:List.replicate 1 (none:Option V)=[none]:=rfl
theorem rep2:List.replicate 2 (none:Option V)=[none,none]:=rfl
theorem rep3:List.replicate 3 (none:Option V)=[none,none,none]:=rfl
theorem rep4:List.replicate 4 (none:Option V)=[none,none,none,none]:=rfl
theorem rep5:List.replicate 5 (none:Option V)=[none,none,none,none,none]:=rfl
theorem rep6:List.replicate 6 (none:Option V)=[none,none,none,none,none,none]:=rfl
theorem rep7:List.replicate 7 (none:Option V)=[none,none,none,none,none,none,none]:=rfl
theorem rep8:List.replicate 8 (none:Option V)=[none,none,none,none,none,none,none,none]:=rfl
theorem rep9:List.replicate 9 (none:Option V)=[none,none,none,none,none,none,none,none,none]:=rfl
theorem rep10:List.replicate 10 (none:Option V)=[none,none,none,none,none,none,none,none,none,none]:=rfl
theorem rep11:List.replicate 11 (none:Option V)=[none,none,none,none,none,none,none,none,none,none,none]:=rfl
end L2
namespace L2
open PySem PySem.Spec PyProof.Rows
mutual
inductive RdD (K:PySem.W.Frag) (H:Hp):V→PyData→Prop
  | non:RdD K H .non .none
  | bl (b:Bool):RdD K H (.bl b) (.bool b)
  | int (i:Int):RdD K H (.int i) (.int i)
  | str (x:Str):RdD K H (.str x) (.str x)
  | lst {a:Addr} {xs:List V} {ds:List PyData} (h:SqL K H a xs) (r:RdDs K H xs ds):RdD K H (.ref a) (.list ds)
  | tup {a:Addr} {xs:List V} {ds:List PyData} (h:SqT K H a xs) (r:RdDs K H xs ds):RdD K H (.ref a) (.tuple ds)
inductive RdDs (K:PySem.W.Frag) (H:Hp):List V→List PyData→Prop
  | nil:RdDs K H [] []
  | cons {x:V} {d:PyData} {xs:List V} {ds:List PyData} (h:RdD K H x d) (r:RdDs K H xs ds):RdDs K H (x::xs) (d::ds)
end
section
variable {X:Cx}{pins:List (Addr × Obj)}{σ:St}{H:Hp}{s:Shared}
mutual
theorem Inv.rd (I:Inv X pins σ H s):∀ {x:V} {d:PyData},RdD X.K H x d→∀ {u:Value},RelV x u→∃ as,Reads s.heap u d as
  | _,_,.non,_,r=>by cases r;exact ⟨_,.none⟩
  | _,_,.bl b,_,r=>by cases r;exact ⟨_,.bool b⟩
  | _,_,.int i,_,r=>by obtain ⟨t,rfl⟩:=r;exact ⟨_,.int i t⟩
  | _,_,.str x,_,r=>by obtain ⟨t,rfl⟩:=r;exact ⟨_,.str x t⟩
  | _,_,.lst h rs,_,r=>by
    cases r
    obtain ⟨its,rv,pl,_⟩:=I.list h
    obtain ⟨as,q⟩:=Inv.rds I rs rv
    obtain ⟨o,ho,hc,n,hd⟩:=pl.isList
    exact ⟨_,.list ho hc hd (by simpa using q)⟩
  | _,_,.tup h rs,_,r=>by
    cases r
    obtain ⟨its,rv,pl,_⟩:=I.tuple h
    obtain ⟨as,q⟩:=Inv.rds I rs rv
    obtain ⟨o,ho,hc,n,hd⟩:=pl
    exact ⟨_,.tuple ho hc hd (by simpa using q)⟩
theorem Inv.rds (I:Inv X pins σ H s):∀ {xs:List V} {ds:List PyData},RdDs X.K H xs ds→∀ {us:List Value},Vals xs us→∃ as,ReadsAll s.heap us ds as
  | _,_,.nil,_,r=>by cases r;exact ⟨_,.nil⟩
  | _,_,.cons h t,_,r=>by
    cases r with
    | cons r1 r2 =>
      obtain ⟨as,q⟩:=Inv.rd I h r1
      obtain ⟨bs,p⟩:=Inv.rds I t r2
      exact ⟨_,.cons q p⟩
end
end
section
variable {X:Cx}
def rNeD (K:PySem.W.Frag):R2:=fun x y H Q=>∃ d e,RdD K H x d∧RdD K H y e∧SeqAt.shaped d=true∧SeqAt.shaped e=true∧SeqAt.noMix d e=true∧Q (.bl (!PySem.Spec.same d e)) H
theorem op_neD (K:PySem.W.Frag)(hu:X.A.units+64<cLine)(h:X.K=K:=by rfl):OpR X (compareOp .NotEq) (rNeD K):=by
  subst h
  intro pins s σ H x y v u Q I rx ry h
  obtain ⟨d,e,h1,h2,s1,s2,nm,q⟩:=h
  obtain ⟨as,r1⟩:=I.rd h1 rx
  obtain ⟨bs,r2⟩:=I.rd h2 ry
  exact ne_dataH_same r1 r2 s1 s2 hu nm ⟨.bl _,H,I,rfl,q⟩
theorem hu64 {A:Around}{k:Nat}(hr:Room k A):A.units+64<cLine:=Nat.lt_of_le_of_lt (by omega) hr.un
end
section
variable {K:PySem.W.Frag}{H:Hp}{Q:VK}{a b:Addr}
end
section
variable {K:PySem.W.Frag}{H:Hp}{Q:VK}{a b:Addr}
end
section
variable {X:Cx}
end
section
variable {K:PySem.W.Frag}{H:Hp}{Q:VK}{p:Addr}{xs:List V}
end
end L2
namespace BM
open PySem L2 PyProof.Rows
end BM
namespace L2
open PySem PySem.Spec PyProof.Rows
section
variable {X:Cx}{tg:Expr}
end
theorem strsAre_of:∀ {xs:List Str} {us:List Value},Vals (xs.map V.str) us→StrsAre us xs
  | [],_,.nil=>.nil
  | _::_,_,.cons ⟨_,e⟩ r=>by subst e;exact .cons _ _ (strsAre_of r)
section
variable {X:Cx}
def rJoin (K:PySem.W.Frag):V→List V→Hp→VK→Prop:=fun x vs H Q=>∃ z p ys,x=.str z∧vs=[.ref p]∧SqL K H p (ys.map V.str)∧(ys.map (·.length)).sum+ys.length*z.length≤16777216∧Q (.str (Txt.join z ys)) H
theorem mt_join (K:PySem.W.Frag)(h:X.K=K:=by rfl):MtR X "str.join" (rJoin K):=by
  subst h
  intro pins s σ H x vs v us Q I rx rv h
  obtain ⟨z,p,ys,rfl,rfl,hp,hz,q⟩:=h
  obtain ⟨t,rfl⟩:=rx
  obtain ⟨u,rfl,ru⟩:=rv.one
  cases ru
  obtain ⟨its,r,pl,_⟩:=I.list hp
  exact join_list pl.isList (by simpa using strsAre_of r) hz fun t' k=>⟨.str _,H,I.tok _,⟨_,rfl⟩,q⟩
theorem rJoin_ap {K:PySem.W.Frag}{x:V}{vs:List V}{H:Hp}{Q:VK}:rJoin K x vs H Q=∃ z p ys,x=.str z∧vs=[.ref p]∧SqL K H p (ys.map V.str)∧(ys.map (·.length)).sum+ys.length*z.length≤16777216∧Q (.str (Txt.join z ys)) H:=rfl
theorem tyV_str {K:PySem.W.Frag}{z:Str}{H:Hp}:tyV K "str" (.str z) H:=rfl
end
theorem int_mk {K:PySem.W.Frag}{h:Heap}{mg:Str→Option Value}{x:Str}{n:Int}{t:Tok}(X:K.In h)(G:h.Ns mainGlobals mg)(a:PySem.W.nsIn K mainGlobals x=some (some (.int n t))):∃ t,mg x=some (.int n t):=⟨t,PySem.W.mg_of X G a⟩
end L2
namespace L2
open PySem PySem.Spec PyProof.Rows
section
variable {P:Program}{w:World}{K:PySem.W.Frag}{mg:Str→Option Value}{base:Heap}
end
section
variable {X:Cx}{k0:Nat}{x m:Str}{p pos apos:Pos}{e o:Expr}{es:List Expr}{ta:TE}{t:TA}{P:Program}{w:World}{K:PySem.W.Frag}{mg:Str→Option Value}{base:Heap}
end
section
variable {P:Program}{w:World}{K:PySem.W.Frag}{mg:Str→Option Value}{base:Heap}{k0:Nat}{m f:Str}{ta tv:TE}{t:TA}{σ:St}{H:Hp}{Q:VK}{C:Addr}{sp:Sp}{dvs:List V}{E:XK}{D:Ends}
end
theorem Same.put {H H':Hp}{a:Addr}{o:HO}(s:Same H H')(h:H a=none):Same H (upd H' a o):=fun b u e=>by rw [upd_ne (ne_of_none e h)];exact s b u e
theorem Same.new {H:Hp}{a:Addr}{o:HO}(h:H a=none):Same H (upd H a o):=(Same.refl H).put h
end L2
namespace L2
open PySem PySem.Spec PyProof.Rows
section
variable {prog:Program}{w:World}{A:Around}{E:Value→Shared→Prop}{s:Shared}
end
section
variable {X:Cx}{e:Expr}{te:TE}{p p' pos pos':Pos}
end
end L2
namespace L2
open PySem PySem.Spec PyProof.Rows
section
variable {prog:Program}{w:World}{A:Around}{E:Value→Shared→Prop}
end
structure TyIns (K:PySem.W.Frag)(C:Addr):Prop where
  a:PySem.W.findIn K (.ref C) "__class__"=some (some (.builtin "object.__class__"))
  b:PySem.W.specialIn K (.builtin "object.__class__") "__get__"=some (some (.builtin "getset_descriptor.__get__"))
  c:PySem.W.takesIn K (.builtin "object.__class__")=some true
  d:PySem.W.mroIn K C (.type "object")=some true
def IsiTo (K:PySem.W.Frag)(mg:Str→Option Value)(C:Addr)(x:Str)(b:Bool):Prop:=∀ S,mg x=some (.ref S)→PySem.W.kitOne K (.ref C) (.ref S)=some b
theorem isi_to {K:PySem.W.Frag}{h:Heap}{mg:Str→Option Value}{x:Str}{C S:Addr}{b:Bool}(X:K.In h)(G:h.Ns mainGlobals mg)(a:PySem.W.nsIn K mainGlobals x=some (some (.ref S)))(r:PySem.W.kitOne K (.ref C) (.ref S)=some b):IsiTo K mg C x b:=fun T e=>by
  rw [PySem.W.mg_of X G a] at e
  cases e
  exact r
theorem all1 {α:Type}{p:List α→Prop}(h:∀ a,p [a]):∀ us:List α,us.length=1→p us
  | [a],_=>h a
theorem all2 {α:Type}{p:List α→Prop}(h:∀ a b,p [a,b]):∀ us:List α,us.length=2→p us
  | [a,b],_=>h a b
end L2
namespace BM
open PySem L2 PyProof.Rows
def fs (k:Nat):Nat→Nat→Nat
  | 0,_=>0
  | n+1,w=>w%2^k+fs k n (w/2^k)
end BM
namespace L2
open PySem PySem.Spec PyProof.Rows
section
variable {X:Cx}{pins:List (Addr × Obj)}{σ:St}{H:Hp}{s:Shared}{h':Heap}
end
structure ZipTn (z TI TO i1 i2 a b:Addr)(i:Nat)(h:Heap):Prop where
  z:IsZip h z TI TO .none
  ti:IsPair h TI (.ref i1) (.ref i2)
  to:∃ x y,IsPair h TO x y
  i1:h.IsListIter i1 a i
  i2:h.IsListIter i2 b i
end L2
namespace L2
open PySem PySem.Spec PyProof.Rows
section
variable {X:Cx}
end
end L2
namespace L2
open PySem PySem.Spec PyProof.Rows
section
variable {x:V}{vs:List V}{H:Hp}{Q:VK}
end
end L2
namespace ZT
open PySem PySem.Spec PyProof.Rows
section
variable {prog:Program}{w:World}{A:Around}{E:Value→Shared→Prop}{s:Shared}
end
section
variable {prog:Program}{w:World}{A:Around}{E:Value→Shared→Prop}{s:Shared}
end
section
variable {prog:Program}{w:World}{A:Around}{E:Value→Shared→Prop}{s:Shared}
end
end ZT
namespace L2
open PySem PySem.Spec PyProof.Rows
structure ZipTt (z TI TO i1 i2 a b:Addr)(i:Nat)(h:Heap):Prop where
  z:IsZip h z TI TO .none
  ti:IsPair h TI (.ref i1) (.ref i2)
  to:∃ x y,IsPair h TO x y
  i1:IsTupIter h i1 a i
  i2:IsTupIter h i2 b i
end L2
namespace Srt
open PySem PyProof.Rows
structure Cmp (M:Model)(A:Around)(E:Value→Shared→Prop)(s:Shared)(kd:SortKind)(S:Keyed→Prop)(L:Keyed→Keyed→Bool):Prop where
  lt:∀ (x y:Keyed) (st:SortSt) (Q:Option Bool→SortSt→Prop),S x→S y→kindOf st=kd→Q (some (L x y)) st→wpS M A E s (lt' x y) Q st
  asym:∀ x y,L x y=true→L y x=false
  neg:∀ x y z,S x→S y→S z→L x z=true→L x y=true∨L y z=true
section
variable {M:Model}{A:Around}{E:Value→Shared→Prop}{s:Shared}{kd:SortKind}{S:Keyed→Prop}{L:Keyed→Keyed→Bool}
def pb (L:Keyed→Keyed→Bool)(left:Bool)(key:Keyed)(arr:Array Keyed)(base i:Nat):Bool:=match arr[base+i]? with
  | some x=>if left then L x key else !L key x
  | none=>false
end
end Srt
namespace Srt
open PySem PyProof.Rows
structure Ord (S:Keyed→Prop)(L:Keyed→Keyed→Bool):Prop where
  asym:∀ x y,L x y=true→L y x=false
  neg:∀ x y z,S x→S y→S z→L x z=true→L x y=true∨L y z=true
abbrev Rise (L:Keyed→Keyed→Bool)(l:List Keyed):Prop:=l.Pairwise fun x y=>L y x=false
section
variable {S:Keyed→Prop}{L:Keyed→Keyed→Bool}
structure MI (L:Keyed→Keyed→Bool)(al bl ol:List Keyed)(ia ib:Nat):Prop where
  perm:ol.Perm (al.take ia++bl.take ib)
  rise:Rise L ol
  lea:∀ x∈ol,∀ y∈al.drop ia,L y x=false
  leb:∀ x∈ol,∀ y∈bl.drop ib,L y x=false
  ha:ia≤al.length
  hb:ib≤bl.length
end
structure Sm (st st':SortSt):Prop where
  kind:kindOf st'=kindOf st
  arr:arrOf st'=arrOf st
  pend:pendingOf st'=pendingOf st
  failed:failedOf st'=failedOf st
section
variable {M:Model}{A:Around}{E:Value→Shared→Prop}{s:Shared}{kd:SortKind}{S:Keyed→Prop}{L:Keyed→Keyed→Bool}
variable {a b out:Array Keyed}{ia ib k:Nat}
structure MS (L:Keyed→Keyed→Bool)(st:SortSt)(a b out:Array Keyed)(ia ib:Nat)(st':SortSt):Prop where
  sm:Sm st st'
  mi:MI L a.toList b.toList out.toList ia ib
  ha:ia+1<a.size
  hb:ib<b.size
end
end Srt
namespace Srt
open PySem PyProof.Rows
section
variable {S:Keyed→Prop}{L:Keyed→Keyed→Bool}
structure MH (L:Keyed→Keyed→Bool)(al bl ol:List Keyed)(na nb:Nat):Prop where
  perm:ol.Perm (al.drop na++bl.drop nb)
  rise:Rise L ol
  lea:∀ x∈ol,∀ y∈al.take na,L x y=false
  leb:∀ x∈ol,∀ y∈bl.take nb,L x y=false
  ha:na≤al.length
  hb:nb≤bl.length
variable {a b out:Array Keyed}{na nb k:Nat}
end
section
variable {M:Model}{A:Around}{E:Value→Shared→Prop}{s:Shared}{kd:SortKind}{S:Keyed→Prop}{L:Keyed→Keyed→Bool}
structure MHS (L:Keyed→Keyed→Bool)(st:SortSt)(a b out:Array Keyed)(na nb:Nat)(st':SortSt):Prop where
  sm:Sm st st'
  mi:MH L a.toList b.toList out.reverse.toList na nb
  ha:0<na
  hb:1<nb
variable {a b out:Array Keyed}{na nb k:Nat}
end
end Srt
namespace Srt
open PySem PyProof.Rows
section
variable {S:Keyed→Prop}{L:Keyed→Keyed→Bool}
end
structure Two (L:Keyed→Keyed→Bool)(st:SortSt)(i:Nat)(pre A B post:List Keyed):Prop where
  arr:(arrOf st).toList=pre++(A++(B++post))
  pa:∃ pw,(pendingOf st)[i]?=some (pre.length,A.length,pw)
  pb:∃ pw,(pendingOf st)[i+1]?=some (pre.length+A.length,B.length,pw)
  rA:Rise L A
  rB:Rise L B
  nA:0<A.length
  nB:0<B.length
section
variable {M:Model}{Ar:Around}{E:Value→Shared→Prop}{s:Shared}{kd:SortKind}{S:Keyed→Prop}{L:Keyed→Keyed→Bool}
end
end Srt
namespace Srt
open PySem PyProof.Rows
structure Sa (st st':SortSt):Prop where
  kind:kindOf st'=kindOf st
  pend:pendingOf st'=pendingOf st
  failed:failedOf st'=failedOf st
section
variable {M:Model}{Ar:Around}{E:Value→Shared→Prop}{s:Shared}{kd:SortKind}{S:Keyed→Prop}{L:Keyed→Keyed→Bool}
end
end Srt
namespace Srt
open PySem PyProof.Rows
abbrev Fall (L:Keyed→Keyed→Bool)(l:List Keyed):Prop:=l.Pairwise fun x y=>L x y=false
structure CR (st st':SortSt)(pre all D T:List Keyed):Prop where
  sa:Sa st st'
  arr:(arrOf st').toList=pre++(D++T)
  perm:(D++T).Perm all
section
variable {M:Model}{Ar:Around}{E:Value→Shared→Prop}{s:Shared}{kd:SortKind}{S:Keyed→Prop}{L:Keyed→Keyed→Bool}
structure Dn (L:Keyed→Keyed→Bool)(D:List Keyed)(neq:Nat):Prop where
  fall:Fall L D
  lt:neq<D.length
  same:∀ x∈D.drop (D.length-(neq+1)),∀ y∈D.drop (D.length-(neq+1)),L x y=false
end
end Srt
namespace Srt
open PySem PyProof.Rows
def Pd (L:Keyed→Keyed→Bool):Nat→List (Nat × Nat × Nat)→List (List Keyed)→Prop
  | _,[],[]=>True
  | off,p::ps,R::rs=>p.1=off∧p.2.1=R.length∧0<R.length∧Rise L R∧Pd L (off+R.length) ps rs
  | _,_,_=>False
section
variable {S:Keyed→Prop}{L:Keyed→Keyed→Bool}
structure SI (L:Keyed→Keyed→Bool)(kd:SortKind)(all:List Keyed)(st:SortSt)(runs:List (List Keyed))(T:List Keyed):Prop where
  arr:(arrOf st).toList=runs.flatten++T
  perm:(runs.flatten++T).Perm all
  pend:Pd L 0 (pendingOf st).toList runs
  kind:kindOf st=kd
  failed:failedOf st=none
end
section
variable {M:Model}{Ar:Around}{E:Value→Shared→Prop}{s:Shared}{kd:SortKind}{S:Keyed→Prop}{L:Keyed→Keyed→Bool}
end
end Srt
namespace L2
open PySem PySem.Spec PyProof.Rows
abbrev bmVal:List Value:=[.type "ValueError",.type "Exception",.type "BaseException",.type "object"]
def excO (e C:Addr):HO:=.ext fun h=>∃ t,h.get? e=some { cls:=.ref C,data:=.fields #[.ref t,.none,.none,.none,.bool false,.none] }
theorem excO_ok {P:Program}{w:World}{H:Hp}{h:Heap}{e C t:Addr}(q:h.get? e=some { cls:=.ref C,data:=.fields #[.ref t,.none,.none,.none,.bool false,.none] }):ObjOk P w H h e (excO e C) :=
  ⟨⟨t,q⟩,⟨_,q⟩,fun h1 h2 ⟨t1,e1⟩ k=>⟨t1,k _ e1⟩⟩
structure XCls (K:PySem.W.Frag)(C:Addr):Prop where
  q:PySem.W.excIn K C bmVal "ValueError.__new__"=true
  kp:PySem.W.keepIn K (.ref C)=true
section
variable {K:PySem.W.Frag}{h:Heap}{C:Addr}
theorem XCls.obj (c:XCls K C) (X:K.In h):∃ (nm qn:Str) (N:Addr) (bs bm:List Value) (hd:Bool) (sn:List Str) (sub:List Value) (ab:Bool) (col:Option Bool) (dd:Option Addr) (k0 k1 k2 k3 k5:Option Value) (mN:Str→Option Value),
    h.get? C=some (excClassObj nm qn C N bs bm hd sn sub ab col dd k0 k1 k2 k3 k5 "ValueError.__new__")∧h.Ns N mN∧mN "__init__"=none∧OwnTail h bmVal bm:=by
  have q:=c.q
  unfold PySem.W.excIn at q
  split at q
  next dd cd sl ho =>
    split at q
    next C' bm k0 k1 k2 k3 n k5 hm hs =>
      simp only [Bool.and_eq_true,beq_iff_eq,Bool.not_eq_true'] at q
      obtain ⟨⟨⟨⟨⟨e1,e2⟩,hdel⟩,ht⟩,hok⟩,hni⟩:=q
      subst e1 e2
      obtain ⟨nm,bs,mro,ns,qn,hd,sn,sub,ab,col,del⟩:=cd
      dsimp only at hm hdel hok hni
      subst hm hdel
      have hsl:sl=#[k0,k1,k2,k3,some (.builtin "ValueError.__new__"),k5]:=by
        obtain ⟨l⟩:=sl
        simp only at hs
        rw [hs]
      subst hsl
      exact ⟨nm,qn,ns,bs,bm,hd,sn,sub,ab,col,dd,k0,k1,k2,k3,k5,_,X _ _ ho,.of_isNs (PySem.W.isNs_of_in X hok),PySem.W.nsMap_none_of_in X hok hni,PySem.W.tail_of_in X ht⟩
    next=>cases q
  next=>cases q
end
section
variable {P:Program}{w:World}{H:Hp}{h h':Heap}{a:Addr}{o:HO}
theorem ObjOk.got:∀ {o:HO},ObjOk P w H h a o→∃ u,h.get? a=some u
  | .lst _,x=>let ⟨_,_,_,_,e⟩:=x;⟨_,e⟩
  | .tup _,x=>let ⟨_,_,_,p⟩:=x;let ⟨_,e,_⟩:=p;⟨_,e⟩
  | .dK _,x=>let ⟨_,_,_,_,_,_,_,e,_⟩:=x;⟨_,e⟩
  | .dT _,x=>let ⟨_,_,_,_,_,_,_,e,_⟩:=x;⟨_,e⟩
  | .set _ _,x=>let ⟨_,_,_,_,e,_⟩:=x;⟨_,e⟩
  | .ins _ _ _,x=>let ⟨_,_,_,e,_⟩:=x;⟨_,e⟩
  | .own _,x=>x
  | .xd _,x=>let ⟨_,⟨_,_,_,e,_⟩,_⟩:=x;⟨_,e⟩
  | .rng _ _,x=>let ⟨_,_,_,e⟩:=x;⟨_,e⟩
  | .frz _ _,x=>⟨_,x.1⟩
  | .tbl _,x=>⟨_,x⟩
  | .met _ _,x=>⟨_,x⟩
  | .ext _,x=>x.2.1
theorem HOk.free (x:HOk P w H h)(e:h.get? a=none):H a=none:=by
  cases q:H a with
  | none=>rfl
  | some u =>
    obtain ⟨_,z⟩:=(x a u q).got
    rw [e] at z
    cases z
theorem HOk.laid0 (x:HOk P w H h)(k:∀ b u,h.get? b=some u→h'.get? b=some u)(e0:h.get? a=none)(new:ObjOk P w (upd H a o) h' a o):HOk P w (upd H a o) h':=by
  intro b u e
  have nn:=x.free e0
  by_cases hb:b=a
  · subst hb
    rw [upd_same] at e
    cases e
    exact new
  · rw [upd_ne hb] at e
    refine (x b u e).stay (fun c v _ q=>k c v q) (fun c q=>?_) (fun c xs q=>?_)
    · rw [upd_ne (ne_of_none q nn)]
      exact q
    · rw [upd_ne (ne_of_none q nn)]
      exact q
theorem Un.laid0 {fs ex:List Addr}(k:∀ b u,h.get? b=some u→h'.get? b=some u)(e0:h.get? a=none)(nn:H a=none):Un fs ex H (upd H a o) h h':=by
  have ne:∀ b u,h.get? b=some u→b≠a:=fun b u q z=>by
    rw [z,e0] at q
    cases q
  refine ⟨fun b u q _ _ _=>k b u q,fun b u q _ _ _=>⟨u.slots,k b u q⟩,fun b u q n _=>?_,fun b u q _=>⟨u,k b u q⟩,fun b xs q=>?_,fun b u xs q=>?_,fun b ps q=>⟨#[],?_⟩⟩
  · rw [upd_ne (ne b u q)]
    exact n
  · rw [upd_ne (ne_of_none q nn)]
    exact q
  · rw [upd_ne (ne_of_none q nn)]
    exact q
  · rw [upd_ne (ne_of_none q nn),q]
    simp
end
section
variable {X:Cx}{C:Addr}
theorem Inv.laid0 {pins:List (Addr × Obj)}{σ:St}{H:Hp}{s:Shared}{h':Heap}{a:Addr}{o:HO}{t':Nat}(I:Inv X pins σ H s)(k:∀ b u,s.heap.get? b=some u→h'.get? b=some u)(e0:s.heap.get? a=none)(new:ObjOk X.prog X.w (upd H a o) h' a o) :
    Inv X pins σ (upd H a o) { s with heap:=h',toks:=t' }:=I.un (Un.laid0 k e0 (I.hok.free e0)) (I.hok.laid0 k e0 new)
def rXMk (C:Addr):List V→Hp→VK→Prop:=fun xs H Q=>xs.length≤sizeLine∧∀ e,H e=none→Q (.ref e) (upd H e (excO e C))
theorem call_exc (c:XCls X.K C):CallR X (.ref C) (rXMk C):=by
  intro pins s σ H xs us Q I r h
  obtain ⟨nm,qn,N,bs,bm,hd,sn,sub,ab,col,dd,k0,k1,k2,k3,k5,mN,hC,hN,hni,T⟩:=c.obj I.kIn
  obtain ⟨h0,g,d,tk,os⟩:=s
  refine wpAny_call_exc_subU F.excBase_ValueError (by decide +kernel) F.excBase_ValueError T hC hN hni (fun h' e m=>?_) (by rw [← r.length];exact h.1)
  obtain ⟨t,e1,_,_⟩:=m.there
  exact ⟨.ref e,_,I.laid0 (t':=tk) m.keeps m.new (excO_ok e1),rfl,h.2 e (I.hok.free m.new)⟩
end
end L2
namespace Srt
open PySem PyProof.Rows
section
variable {prog:Program}{w:World}{Ar:Around}{E:Value→Shared→Prop}{s:Shared}
end
end Srt
namespace L2
open PySem PySem.Spec PyProof.Rows
section
variable {X:Cx}
end
end L2
namespace Srt
open PySem PyProof.Rows PySem.W
section
variable {prog:Program}{w:World}{Ar:Around}{E:Value→Shared→Prop}{s:Shared}
end
end Srt
namespace L2
open PySem PySem.Spec PyProof.Rows
section
variable {X:Cx}
end
end L2
namespace SG
open PySem PySem.Spec PyProof.Rows
def Ris (xs:Array Nat):Prop:=∀ i j (hj:j<xs.size) (h:i<j),xs[i]<xs[j]
theorem Ris.le {xs:Array Nat}(r:Ris xs){i j:Nat}(hj:j<xs.size)(h:i≤j):xs[i]≤xs[j]:=by
  rcases Nat.lt_or_ge i j with q | q
  · exact Nat.le_of_lt (r i j hj q)
  · have:i=j:=Nat.le_antisymm h q
    subst this
    exact Nat.le_refl _
theorem go_ok {xs:Array Nat} (r:Ris xs) (j:Nat):∀ (n lo hi:Nat),hi-lo≤n→lo≤hi→hi≤xs.size→(∀ i (h:i<xs.size),i<lo→xs[i]<j)→(∀ i (h:i<xs.size),hi≤i→j≤xs[i]) →
    (∀ i (h:i<xs.size),i<SetTable.below.go xs j n lo hi→xs[i]<j)∧(∀ i (h:i<xs.size),SetTable.below.go xs j n lo hi≤i→j≤xs[i])∧SetTable.below.go xs j n lo hi≤xs.size
  | 0,lo,hi,hn,h1,h2,a,b=>by
    have e:lo=hi:=by omega
    subst e
    unfold SetTable.below.go
    exact ⟨a,b,h2⟩
  | n + 1,lo,hi,hn,h1,h2,a,b=>by
    unfold SetTable.below.go
    by_cases q:lo<hi
    · rw [if_pos q]
      have hm:(lo+hi)/2<xs.size:=by omega
      have eg:xs.getD ((lo+hi)/2) j=xs[(lo+hi)/2]:=by simp [Array.getD,hm]
      dsimp only
      rw [eg]
      by_cases c:xs[(lo+hi)/2]<j
      · rw [if_pos c]
        refine go_ok r j n ((lo+hi)/2+1) hi (by omega) (by omega) h2 (fun i h hi'=>?_) b
        exact Nat.lt_of_le_of_lt (r.le hm (by omega)) c
      · rw [if_neg c]
        refine go_ok r j n lo ((lo+hi)/2) (by omega) (by omega) (by omega) a (fun i h hi'=>?_)
        exact Nat.le_trans (Nat.le_of_not_lt c) (r.le h hi')
    · rw [if_neg q]
      have e:lo=hi:=by omega
      subst e
      exact ⟨a,b,h2⟩
theorem below_ok {xs:Array Nat}(r:Ris xs)(j:Nat):(∀ i (h:i<xs.size),i<SetTable.below xs j→xs[i]<j)∧(∀ i (h:i<xs.size),SetTable.below xs j≤i→j≤xs[i])∧SetTable.below xs j≤xs.size:=by
  unfold SetTable.below
  exact go_ok r j xs.size 0 xs.size (by omega) (by omega) (Nat.le_refl _) (fun i h z=>absurd z (Nat.not_lt_zero _)) (fun i h z=>absurd h (by omega))
theorem ris_iff {xs:Array Nat}:Ris xs↔xs.toList.Pairwise (·<·):=by
  rw [List.pairwise_iff_getElem]
  constructor
  · intro r i j hi hj h
    have:=r i j (by simpa using hj) h
    simpa using this
  · intro r i j hj h
    have:=r i j (by simp;omega) (by simpa using hj) h
    simpa using this
theorem ris_put {xs:Array Nat}(r:Ris xs){j:Nat}(n:xs[SetTable.below xs j]?≠some j):Ris (SetTable.insertAt xs (SetTable.below xs j) j):=by
  obtain ⟨a,b,c⟩:=below_ok r j
  have b':∀ i (h:i<xs.size),SetTable.below xs j≤i→j<xs[i]:=by
    intro i h q
    have h1:=b i h q
    rcases Nat.lt_or_ge j xs[i] with z | z
    · exact z
    · exfalso
      have e:xs[i]=j:=Nat.le_antisymm z h1
      have hp:SetTable.below xs j<xs.size:=by omega
      have e2:xs[SetTable.below xs j]=j:=Nat.le_antisymm (by have:=r.le h q;omega) (b _ hp (Nat.le_refl _))
      apply n
      rw [Array.getElem?_eq_getElem hp,e2]
  generalize SetTable.below xs j=p at a b' c
  rw [ris_iff] at r ⊢
  unfold SetTable.insertAt
  have e:((xs.extract 0 p).push j++xs.extract p xs.size).toList=xs.toList.take p++j::xs.toList.drop p:=by
    simp [Array.toList_extract,List.extract]
    exact List.take_of_length_le (by rw [List.length_drop,Array.length_toList];exact Nat.le_refl _)
  rw [e,List.pairwise_append]
  refine ⟨r.sublist (List.take_sublist _ _),?_,?_⟩
  · rw [List.pairwise_cons]
    refine ⟨fun y hy=>?_,r.sublist (List.drop_sublist _ _)⟩
    obtain ⟨i,hi,rfl⟩:=List.mem_iff_getElem.mp hy
    rw [List.getElem_drop]
    have hl:p+i<xs.size:=by rw [List.length_drop,Array.length_toList] at hi;omega
    have:=b' (p+i) hl (by omega)
    simpa using this
  · intro y hy z hz
    have hy1:y<j:=by
      obtain ⟨i,hi,rfl⟩:=List.mem_iff_getElem.mp hy
      rw [List.getElem_take]
      have hl:i<p:=by rw [List.length_take] at hi;omega
      have:=a i (by rw [List.length_take,Array.length_toList] at hi;omega) hl
      simpa using this
    rcases List.mem_cons.mp hz with rfl | hz
    · exact hy1
    · obtain ⟨i,hi,rfl⟩:=List.mem_iff_getElem.mp hz
      rw [List.getElem_drop]
      have hl:p+i<xs.size:=by rw [List.length_drop,Array.length_toList] at hi;omega
      have:=b' (p+i) hl (by omega)
      have:j<xs.toList[p+i]'(by simpa using hl):=by simpa using this
      omega
theorem probe_free {t:SetTable} {f:Nat→Int} {h:Int}:∀ (n:Nat) (p:SetTable.Probe) (j:Nat) (d:Option Nat),(∀ x,p.dummy=some x→t.slot x=.dummy)→SetTable.probe.go t f h n p=some (.empty j d)→(t.slot j=.empty)∧∀ x,d=some x→t.slot x=.dummy
  | 0,p,j,d,hd,e=>by unfold SetTable.probe.go at e;cases e
  | n + 1,p,j,d,hd,e=>by
    unfold SetTable.probe.go at e
    have adv:∀ q:SetTable.Probe,(t.advance q).dummy=q.dummy:=by
      intro q
      unfold SetTable.advance
      split<;>rfl
    split at e
    · rename_i hs
      cases e
      exact ⟨hs,hd⟩
    · rename_i hs
      refine probe_free n _ j d (fun x hx=>?_) e
      rw [adv] at hx
      cases hx
      exact hs
    · split at e
      · cases e
      · refine probe_free n _ j d (fun x hx=>?_) e
        rw [adv] at hx
        exact hd x hx
theorem slot_not {t:SetTable}{j:Nat}(h:t.slot j=.empty∨t.slot j=.dummy):t.place[SetTable.below t.place j]?≠some j:=by
  intro e
  unfold SetTable.slot at h
  simp only [e,beq_self_eq_true,if_true] at h
  rcases h with h | h<;>cases h
theorem free_not {t:SetTable}{h:Int}{j:Nat}{b:Bool}(e:t.freeSlot h=some (j,b)):t.place[SetTable.below t.place j]?≠some j:=by
  unfold SetTable.freeSlot at e
  split at e
  · rename_i j0 d hp
    unfold SetTable.probe at hp
    obtain ⟨h1,h2⟩:=probe_free _ _ _ _ (fun x hx=>by cases hx) hp
    cases e
    cases d with
    | none=>exact slot_not (.inl h1)
    | some x=>exact slot_not (.inr (h2 x rfl))
  · cases e
structure Good (bt:Bool)(t:SetTable):Prop where
  led:t.led=!bt
  ris:t.plain=true→Ris t.place
theorem Good.standIn {bt:Bool}{t:SetTable}(g:Good bt t)(n:Nat):Good bt (t.standIn n):=⟨g.led,fun h=>by cases h⟩
theorem Good.layNew {bt:Bool}{t:SetTable}(g:Good bt t)(es:Array (Int × Value))(h:Int)(x:Value):Good bt (layNew t es h x).2.1:=by
  unfold PySem.layNew
  split
  · rename_i j b e
    show Good bt ((t.put j).1.orStandIn _)
    have gp:Good bt (t.put j).1:=⟨g.led,fun hp=>ris_put (g.ris hp) (free_not e)⟩
    unfold SetTable.orStandIn
    split
    · exact gp
    · exact gp.standIn _
  · exact g.standIn _
theorem Good.relayAll {bt:Bool}{t:SetTable}(g:Good bt t)(es:Array (Int × Value))(n:Nat):Good bt (relayAll t es n).2.1:=by
  unfold PySem.relayAll
  split
  · rename_i t' ord e
    have gt:Good bt t':=by
      unfold SetTable.relaid SetTable.laid at e
      simp only [Option.bind_eq_bind,Option.bind_eq_some_iff,Option.pure_def] at e
      obtain ⟨ow,_,e⟩:=e
      cases e
      refine ⟨g.led,fun _=>?_⟩
      rw [ris_iff]
      show (List.map _ _).Pairwise _
      rw [List.pairwise_map]
      refine List.Pairwise.filterMap (R:=(·<·)) _ (fun a a' haa b hb c hc=>?_) List.pairwise_lt_range
      simp only [Option.map_eq_some_iff] at hb hc
      obtain ⟨_,_,rfl⟩:=hb
      obtain ⟨_,_,rfl⟩:=hc
      exact haa
    dsimp only
    split
    · exact gt
    · exact g.standIn _
  · exact g.standIn _
end SG
namespace SG
open PySem PySem.Spec PyProof.Rows
def iv:Value→Int
  | .int k _=>k
  | _=>0
def bt (w:World):Bool:=w.params.followText "set-order"
def ST (prog:Program)(w:World)(h:Heap)(a:Addr)(ks:List Int):Prop :=
  ∃ o es ep t,h.get? a=some o∧o.ExactSet∧o.data=.set es ep t∧ElemsOf (intKind prog w) es.toList∧es.size<scanBound∧t.fits es.size=true∧Good (bt w) t∧(es.toList.map fun e=>iv e.2)=ks∧ks.Nodup
section
variable {prog:Program}{w:World}{A:Around}{E:Value→Shared→Prop}{s:Shared}
theorem isInt_iv {k:Int}{e:Int × Value}{es:List (Int × Value)}(el:ElemsOf (intKind prog w) es)(he:e∈es):(intKind prog w).is k e.2=true↔iv e.2=k:=by
  obtain ⟨⟨k',h1,_⟩,_⟩:=el e he
  obtain ⟨t,e2⟩:=Value.isInt_shape h1
  rw [e2]
  constructor
  · intro h
    exact (intKind prog w).inj _ _ _ (intKind_is prog w k' t) h
  · intro h
    have h:k'=k:=h
    subst h
    exact intKind_is prog w k' t
theorem put_at {h:Heap}{a:Addr}{o:Obj}{es:Array (Int × Value)}{ep:Nat}{t:SetTable}(ho:h.get? a=some o)(hd:o.data=.set es ep t)(es':Array (Int × Value))(t':SetTable) :
    (h.update a (Obj.putSet es' t')).get? a=some { o with data:=.set es' (ep+1) t' }:=by
  have q:=Heap.get?_update_self (Obj.putSet es' t') ho (by rw [putSet_of es' t' hd];rfl)
  rw [putSet_of es' t' hd] at q
  exact q
theorem size_perm {es es':Array (Int × Value)}(p:es'.toList.Perm es.toList):es'.size=es.size:=by
  rw [← Array.length_toList,p.length_eq,Array.length_toList]
theorem tail_add {g:Bool→Sem Unit}(hg:∀ (b:Bool) (s1:Shared) (Q':Unit→Shared→Prop),Q' () s1→wpAny (model prog w) A (g b) Q' E s1){a:Addr}{o:Obj}{es:Array (Int × Value)}{ep:Nat}{t:SetTable}(ho:s.heap.get? a=some o)(hx:o.ExactSet)(hd:o.data=.set es ep t)
    {es1:Array (Int × Value)} {t2:SetTable} {wd:Bool} {R:Option Bool→Shared→Prop} (el:ElemsOf (intKind prog w) es1.toList) (hb:es1.size<scanBound) (hf:t2.fits es1.size=true) (gd:Good (bt w) t2) (nd:(es1.toList.map fun e=>iv e.2).Nodup)
    (q:∀ h' ks',Heap.SameBut a s.heap h'→ST prog w h' a ks'→ks'.Perm (es1.toList.map fun e=>iv e.2)→R (some true) { s with heap:=h' }) :
    wpAny (model prog w) A (do storeSet a es1 t2;if (!wd&&t2.tooFull)=true then (do g (relayAll t2 es1 (SetTable.grown es1.size)).2.2;storeSet a (relayAll t2 es1 (SetTable.grown es1.size)).1 (relayAll t2 es1 (SetTable.grown es1.size)).2.1;pure (some true)) else pure (some true)) R E s:=by
  refine wpAny_bind (wpAny_storeSet_of ho hd ?_ (fits_of_scanBound hb))
  have ho1:=put_at ho hd es1 t2
  have sb:=Heap.SameBut.update s.heap a (Obj.putSet es1 t2)
  split
  · have pp:=relayAll_perm t2 es1 (SetTable.grown es1.size)
    have pf:=relayAll_fits t2 es1 (SetTable.grown es1.size)
    have pg:=gd.relayAll es1 (SetTable.grown es1.size)
    generalize relayAll t2 es1 (SetTable.grown es1.size)=Z at pp pf pg ⊢
    obtain ⟨es2,t3,gv⟩:=Z
    have pp:es2.toList.Perm es1.toList:=pp
    have hb2:es2.size<scanBound:=by rw [size_perm pp];exact hb
    refine wpAny_bind (hg _ _ _ (wpAny_bind (wpAny_storeSet_of ho1 rfl ?_ (fits_of_scanBound hb2))))
    refine wpAny_pure (q _ _ (sb.trans (Heap.SameBut.update _ a _)) ⟨_,es2,_,t3,put_at ho1 rfl es2 t3,hx,rfl,el.perm pp,hb2,pf,pg,rfl,?_⟩ (pp.map _))
    exact (pp.map fun e=>iv e.2).nodup_iff.mpr nd
  · exact wpAny_pure (q _ _ sb ⟨_,es1,_,t2,ho1,hx,rfl,el,hb,hf,gd,rfl,nd⟩ (.refl _))
theorem add_int {a:Addr} {ks:List Int} {k:Int} {tk:Tok} {Q:Bool→Shared→Prop} (hS:ST prog w s.heap a ks) (room:ks.length+1<scanBound)
    (q:∀ b h' ks',Heap.SameBut a s.heap h'→ST prog w h' a ks'→(∀ y,y∈ks'↔y∈ks∨y=k)→ks'.length≤ks.length+1→Q b { s with heap:=h' }):wpAny (model prog w) A (setAddHashed a (.int k tk) ((intKind prog w).hash k)) Q E s:=by
  obtain ⟨o,es,ep,t,ho,hx,hd,el,hb,hf,gd,rfl,nd⟩:=hS
  have hk:=intKind_is prog w k tk
  have lz:(es.toList.map fun e=>iv e.2).length=es.size:=by rw [List.length_map,Array.length_toList]
  unfold setAddHashed;unfold setAddHashedIn;refine wpAny_holding (wpAny_bind (wpAny_setState_of ho hd hf ?_));dsimp only
  rw [byScan_of (x:=Value.int k tk) rfl hb el,if_pos rfl]
  unfold setAddByScan
  refine wpAny_bind (wpAny_bind (wpAny_rule (wpAny_bind (wpAny_setScan_of hk ho hd hf el ?_))))
  cases hr:List.findIdx? (fun e=>(intKind prog w).is k e.2) es.toList with
  | some j =>
    dsimp only
    obtain ⟨hj,pj,_⟩:=List.findIdx?_eq_some_iff_getElem.mp hr
    have hm:k∈es.toList.map fun e=>iv e.2:=List.mem_map.mpr ⟨_,List.getElem_mem hj,(isInt_iv el (List.getElem_mem hj)).mp pj⟩
    refine wpAny_pure (wpAny_pure ?_)
    have:=q false s.heap _ (Heap.SameBut.refl a s.heap) ⟨o,es,ep,t,ho,hx,hd,el,hb,hf,gd,rfl,nd⟩ (fun y=>⟨.inl,fun z=>z.elim id fun e=>e ▸ hm⟩) (Nat.le_succ _)
    exact this
  | none =>
    dsimp only
    have hm:k∉es.toList.map fun e=>iv e.2:=by
      intro z
      obtain ⟨e,he,e1⟩:=List.mem_map.mp z
      have:=List.findIdx?_eq_none_iff.mp hr e he
      rw [(isInt_iv el he).mpr e1] at this
      cases this
    have gw:∀ (b:Bool) (s1:Shared) (Q':Unit→Shared→Prop),Q' () s1→wpAny (model prog w) A (match b with | true=>rule "set.scan.the-table-gave-way" | false=>pure ()) Q' E s1:=fun b s1 Q' z=>by
      cases b
      · exact wpAny_pure z
      · exact wpAny_rule z
    have lp:=layNew_perm t es ((intKind prog w).hash k) (.int k tk)
    have lf:=layNew_fits t es ((intKind prog w).hash k) (.int k tk)
    have lg:=gd.layNew es ((intKind prog w).hash k) (.int k tk)
    generalize layNew t es ((intKind prog w).hash k) (.int k tk)=Z at lp lf lg ⊢
    obtain ⟨es1,t1,wd,gv⟩:=Z
    have lf:t1.fits es1.size=true:=lf
    have lg:Good (bt w) t1:=lg
    have lp:es1.toList.Perm (es.toList++[((intKind prog w).hash k,.int k tk)]):=by
      have:=lp
      rwa [Array.toList_push] at this
    have el1:ElemsOf (intKind prog w) es1.toList:=(el.push hk rfl).perm lp
    have l1:es1.size=es.size+1:=by
      have:=lp.length_eq
      rw [List.length_append,Array.length_toList,Array.length_toList] at this
      exact this
    have hb1:es1.size<scanBound:=by rw [l1];rw [lz] at room;exact room
    have pm:(es1.toList.map fun e=>iv e.2).Perm ((es.toList.map fun e=>iv e.2)++[k]):=by
      have:=lp.map fun e=>iv e.2
      rwa [List.map_append] at this
    have nd1:(es1.toList.map fun e=>iv e.2).Nodup:=by
      rw [pm.nodup_iff,List.nodup_append]
      exact ⟨nd,(by simp),fun x hx y hy e=>hm (by rw [List.mem_singleton.mp hy] at e;rw [← e];exact hx)⟩
    have fin:∀ h' ks',Heap.SameBut a s.heap h'→ST prog w h' a ks'→ks'.Perm (es1.toList.map fun e=>iv e.2)→Q true { s with heap:=h' }:=fun h' ks' sb st p=>by
      refine q true h' ks' sb st (fun y=>?_) ?_
      · rw [p.mem_iff,pm.mem_iff,List.mem_append,List.mem_singleton]
      · rw [p.length_eq,List.length_map,Array.length_toList,l1,lz]
        exact Nat.le_refl _
    dsimp only
    refine wpAny_bind (gw _ _ _ ?_)
    split
    · refine wpAny_bind ?_
      rw [hashByValue_scannable 8 (x:=Value.int k tk) rfl]
      refine wpAny_pure (tail_add (fun b s1 Q' z=>gw b s1 Q' z) ho hx hd el1 hb1 ?_ ?_ nd1 fun h' ks' sb st p=>wpAny_pure (fin h' ks' sb st p))
      · exact lf
      · exact lg
    · refine wpAny_bind (wpAny_pure (tail_add (fun b s1 Q' z=>gw b s1 Q' z) ho hx hd el1 hb1 ?_ ?_ nd1 fun h' ks' sb st p=>wpAny_pure (fin h' ks' sb st p)))
      · exact lf
      · exact lg
set_option maxHeartbeats 3200000 in
end
end SG
namespace SG
open PySem PySem.Spec PyProof.Rows
section
variable {prog:Program}{w:World}{A:Around}{E:Value→Shared→Prop}{s:Shared}{a:Addr}{o:Obj}{es:Array (Int × Value)}{ep:Nat}{t:SetTable}
end
end SG
namespace SG
open PySem PySem.Spec PyProof.Rows
section
variable {prog:Program}{w:World}{A:Around}{E:Value→Shared→Prop}{s:Shared}{a I:Addr}{o:Obj}{es:Array (Int × Value)}{ep:Nat}{t:SetTable}
end
end SG
namespace SG
open PySem PySem.Spec PyProof.Rows
structure Wk (prog:Program)(w:World)(h0 h2:Heap)(a:Addr)(ks:List Int)(I:Addr):Prop where
  ex:∃ (fp wr:List Addr) (vs:List Value) (ks':List Int) (St:Nat→Heap→Prop),(∀ A:Around,A.handled=none→Walks prog w A I fp wr vs.length (fun i v=>vs[i]?=some v) St)∧St 0 h2∧(∀ b∈fp,b<h2.objs.size)∧I∈fp∧(∀ b∈wr,h0.get? b=none)∧IntsAre vs ks'∧ks'.Perm ks∧(∀ b∈fp,b=a∨h0.get? b=none)
  old:∀ b o,h0.get? b=some o→h2.get? b=some o
section
variable {prog:Program}{w:World}{A:Around}{E:Value→Shared→Prop}{s:Shared}{a I:Addr}{o:Obj}{es:Array (Int × Value)}{ep:Nat}{t:SetTable}
end
end SG
namespace SG
open PySem PySem.Spec PyProof.Rows
section
variable {prog:Program}{w:World}{A:Around}{E:Value→Shared→Prop}{s:Shared}{a:Addr}
end
end SG
namespace SG
open PySem PySem.Spec PyProof.Rows Srt
section
variable {prog:Program}{w:World}{Ar:Around}{E:Value→Shared→Prop}{s:Shared}{a:Addr}
end
end SG
namespace L2
open PySem PySem.Spec PyProof.Rows
section
variable {X:Cx}{pins:List (Addr × Obj)}{σ:St}{H:Hp}{s:Shared}
end
section
variable {X:Cx}{e:Expr}{te:TE}{p p' pos pos':Pos}
end
end L2
namespace L2
open PySem PySem.Spec PyProof.Rows Srt SG
section
variable {td ty tx tv:TE}{σ:St}{H:Hp}{Q:VK}{D:Ends}
end
section
variable {X:Cx}{x:Str}{p pos:Pos}
end
section
variable {X:Cx}
end
end L2
namespace L2
open PySem PySem.Spec PyProof.Rows
structure Cov (l:List Env)(h:Heap)(H:Hp)(B:Heap):Prop where
  old:∀ b o,h.get? b=some o→b∉frs l→∃ u,B.get? b=some u
  trk:∀ b u,H b=some u→∃ o,B.get? b=some o
section
variable {X:Cx}{pins:List (Addr × Obj)}{σ:St}{H:Hp}{s:Shared}
end
section
variable {P:Program}{w:World}{K:PySem.W.Frag}{mg:Str→Option Value}{base:Heap}{N:List Str}{qual:Str}{scope:Scope}{f:Addr}{cd:Value}{A:Around}{outer:List Env}{s0:Shared}{H0:Hp}{E:XK}
end
end L2
namespace L2
open PySem PySem.Spec PyProof.Rows
section
variable {P:Program}{w:World}{K:PySem.W.Frag}{mg:Str→Option Value}{base:Heap}{N:List Str}{qual:Str}{scope:Scope}{f:Addr}{cd:Value}{A:Around}{outer:List Env}{s0:Shared}{H0:Hp}{E:XK}
end
def XP (X:Cx)(pins:List (Addr × Obj))(σ:St)(W:Addr→Hp→Prop)(e:Value)(s':Shared):Prop:=∃ (ea C:Addr) (a0:Value) (B:Heap) (H':Hp),
  e=.ref ea∧Inv X pins σ H' s'∧Heap.FlyingW B X.stack ea (.ref C) a0 s'.heap∧Cov X.stack X.s₀.heap H' B∧(∀ p∈X.pn++pins,∃ o,B.get? p.1=some o)∧W C H'
section
variable {X:Cx}{pins:List (Addr × Obj)}{σ:St}{H:Hp}{s:Shared}
end
abbrev TX:=(Addr→St→Hp→Prop)→TS
def PX (X:Cx)(st:Stmt)(t:TX):Prop :=
  ∀ (pins:List (Addr × Obj)) (s:Shared) (σ:St) (H:Hp) (D:Ends) (W:Addr→St→Hp→Prop),Inv X pins σ H s→t W D σ H→wpAny (model X.prog X.w) X.A (exec st X.env) (SP X pins D) (fun e s'=>∃ σ',XP X pins σ' (fun C=>W C σ') e s') s
section
variable {X:Cx}{st:Stmt}{sts rest:List Stmt}{t u:TX}{pos:Pos}
end
end L2
namespace L2
open PySem PySem.Spec PyProof.Rows
section
variable {X:Cx}{pins:List (Addr × Obj)}{σ:St}{H:Hp}{s:Shared}{ea:Addr}{oe:Obj}
end
section
variable {X:Cx}
end
end L2
namespace EX
open PySem PySem.Spec PyProof.Rows PySem.W PySem.Calls Builtin Builtin.ObjectAttr Builtin.Getset_descriptor
structure XIsi (K:Frag)(C:Addr):Prop where
  cls:(clsIn K C).isSome=true
  ga:findIn K (.ref C) "__getattribute__"=some (some (.builtin "BaseException.__getattribute__"))
  no:findIn K (.ref C) "__getattr__"=some none
  ca:findIn K (.ref C) "__class__"=some (some (.builtin "object.__class__"))
  ob:mroIn K C (.type "object")=some true
  be:mroIn K C (.type "BaseException")=some true
section
variable {prog:Program}{w:World}{A:Around}{E:Value→Shared→Prop}{s:Shared}{K:Frag}{x C:Addr}{ox:Obj}
theorem xclass_get {R:Result→Shared→Prop}{tp:Value}(Z:XIsi K C)(X:K.In s.heap)(L0:Looks (model prog w) s.heap (typeOf (.ref x)) (.ref C))(h:R (.ok (.ret (.ref C))) s) :
    codeAny (model prog w) A (.call (.builtin "getset_descriptor.__get__") ⟨[.builtin "object.__class__",.ref x,tp],[]⟩) R s:=by
  obtain ⟨hh,g,dr,t,os⟩:=s
  have L1:=looks_mroIn (M:=model prog w) X Z.ob
  refine codeAny_call_builtin KF.slot_gs.plain KF.entry_gs (KF.slot_gs.check _ _ _ _ _ _ _ _ KF.type_class (KF.args_gs _ _ _) ?_)
  unfold Builtin.«getset_descriptor.__get__» descrGet
  rw [dga_obj]
  refine wpAny_bind (wpAny_pure ?_)
  unfold descrGetter descrCheckInstance descrNameAndClass isInstance
  simp only [KF.owner_class]
  repeat lk
  refine ⟨Code.quiet_builtin _ (by decide +kernel),codeAny_builtin KF.entry_class ?_⟩
  unfold Builtin.«object.__class__» shownTypeOf
  repeat lk
  exact h
theorem xclass_entry {tk:Tok}{Q:Fin→Shared→Prop}(Z:XIsi K C)(X:K.In s.heap)(hx:s.heap.get? x=some ox)(hc:ox.cls=.ref C)(hq:Q (.done (.ret (.ref C))) s) :
    wpAny (model prog w) A (Builtin.«object.__getattribute__» ⟨[.ref x,.str "__class__" tk],[]⟩) Q E s:=by
  obtain ⟨hh,g,dr,t,os⟩:=s
  have L0:Looks (model prog w) hh (typeOf (.ref x)) (.ref C):=fun A' Q' E' s' k z=>by
    unfold typeOf
    exact wpAny_bind (wpAny_loadPart (k _ _ hx) (by rw [hc];exact wpAny_pure z))
  have L1:=looks_findIn (M:=model prog w) X Z.ca
  have hT5:(⟨hh,g,dr,t,os⟩:Shared).TypeIs (.builtin "object.__class__") "getset_descriptor":=F.typeOf_object_class
  have f5:=F.typeOf_object_class
  have f6:=F.slot_gs_get.lookup
  have f7:=F.slot_gs_set.lookup
  repeat (any_goals (first | assumption | with_reducible refine L0.at ?_ | with_reducible refine L1.at ?_ | wp_step))
  refine xclass_get Z X L0 ?_
  repeat (any_goals (first | assumption | wp_step))
theorem xcheck_ga {M:Model}{nameV:Value}{Q:Unit→Shared→Prop}(Z:XIsi K C)(X:K.In s.heap)(L0:Looks M s.heap (typeOf (.ref x)) (.ref C))(hq:Q () s):wpAny M A (checkBuiltinCall "BaseException.__getattribute__" ⟨[.ref x,nameV],[]⟩) Q E s:=by
  have hk:builtinKind "BaseException.__getattribute__"=some .slot:=by decide +kernel
  have hsplit:splitId "BaseException.__getattribute__"=some ("BaseException","__getattribute__"):=by decide +kernel
  have L1:=looks_mroIn (M:=M) X Z.be
  have ha:=F.args_bexc_ga (.ref x) nameV
  obtain ⟨hh,g,dr,t,os⟩:=s
  simp only [checkBuiltinCall,hk,hsplit]
  refine wpAny_bind ?_
  unfold isInstance
  repeat (first | with_reducible refine L0.at ?_ | with_reducible refine L1.at ?_ | wp_step)
  exact hq
theorem xclass_attr {Q:Option Value→Shared→Prop}(Z:XIsi K C)(X:K.In s.heap)(hx:s.heap.get? x=some ox)(hc:ox.cls=.ref C)(hq:Q (some (.ref C)) { s with toks:=s.toks+1 }):wpAny (model prog w) A (getAttr? (.ref x) "__class__") Q E s:=by
  obtain ⟨hh,g,dr,t,os⟩:=s
  have L0:Looks (model prog w) hh (typeOf (.ref x)) (.ref C):=fun A' Q' E' s' k z=>by
    unfold typeOf
    exact wpAny_bind (wpAny_loadPart (k _ _ hx) (by rw [hc];exact wpAny_pure z))
  have L1:=looks_findIn (M:=model prog w) X Z.ga
  have L2:=looks_findIn (M:=model prog w) X Z.no
  have f3:=F.excAttr_ValueError.ga.bind (.ref x)
  have hx0:(false&&onTheHeap (Value.builtin "BaseException.__getattribute__"))=false:=rfl
  have hx2:(Value.builtin "BaseException.__getattribute__"==Value.builtin "object.__getattribute__")=false:=by decide +kernel
  have hx1:(onTheHeap (Value.ref C)&&Value.builtin "BaseException.__getattribute__"==Value.builtin "object.__getattribute__")=false:=by rw [hx2];rfl
  unfold getAttr? getAttrBy?
  repeat (any_goals (first | assumption | with_reducible refine L0.at ?_ | with_reducible refine L1.at ?_ | with_reducible refine L2.at ?_ | wp_step))
  refine codeAny_call_builtin F.excAttr_ValueError.ga.plain F.entry_bexc_ga (xcheck_ga Z X L0 (xclass_entry Z X hx hc ?_))
  repeat (any_goals (first | assumption | wp_step))
theorem kitx_exc (Z:XIsi K C)(hc:ox.cls=.ref C):KitX K (.ref x) (.ref C) (fun h=>h.get? x=some ox) where
  ty:=fun _ _ _ hx A' Q' E' s' k z=>by
    unfold typeOf
    exact wpAny_bind (wpAny_loadPart (k _ _ hx) (by rw [hc];exact wpAny_pure z))
  it:=fun _ _ X _=>by
    obtain ⟨cdD,hcD⟩:=Option.isSome_iff_exists.mp Z.cls
    unfold clsIn at hcD
    split at hcD
    · rename_i c' d' cd' sl' ho
      intro A' Q' E' s' k q
      unfold isType loadHead
      exact wpAny_bind (wpAny_loadPart (k _ _ (X _ _ ho)) (wpAny_pure q))
    · cases hcD
  ne:=fun h tp dd its n sl X htp=>by
    obtain ⟨cdD,hcD⟩:=Option.isSome_iff_exists.mp Z.cls
    refine Bool.eq_false_iff.mpr fun q=>?_
    have e:C=tp:=Value.ref.inj (beq_iff_eq.mp q)
    subst e
    unfold clsIn at hcD
    split at hcD
    · rename_i c' d' cd' sl' ho
      have z:=(X _ _ ho).symm.trans htp
      cases z
    · cases hcD
  ca:=fun X hx k=>xclass_attr Z X hx hc k
end
end EX
namespace L2
open PySem PySem.Spec PyProof.Rows
section
variable {P:Program}{w:World}{K:PySem.W.Frag}{mg:Str→Option Value}{base:Heap}
variable {N:List Str}{qual:Str}{scope:Scope}{f:Addr}{cd:Value}{A:Around}{outer:List Env}{s0:Shared}{H0:Hp}{E:XK}
end
end L2
namespace L2
open PySem PySem.Spec PyProof.Rows
section
variable {P:Program}{w:World}{K:PySem.W.Frag}{mg:Str→Option Value}{base:Heap}{N:List Str}{qual:Str}{scope:Scope}{f:Addr}{cd:Value}{A:Around}{outer:List Env}{s0:Shared}{H0:Hp}{E:XK}
end
end L2
namespace L2
open PySem PySem.Spec PyProof.Rows
section
variable {prog:Program}{w:World}{A:Around}{E:Value→Shared→Prop}{h:Heap}{g:Array GenState}{d:Drawn}{t:Nat}{os:OsState}
variable {nm q:Str}{C N:Addr}{bs bm bmB:List Value}{hdc:Bool}{sn:List Str}{sub:List Value}{ab:Bool}{col:Option Bool}{dd:Option Addr}{k0 k1 k2 k3 k5:Option Value}{B Bn newId nid initId inN:String}{bmN:List Value}
abbrev excT (rest:List Value):Obj:={ cls:=.type "tuple",data:=.seq rest.toArray }
abbrev excB (C t:Addr):Obj:={ cls:=.ref C,data:=.fields #[.ref t,.none,.none,.none,.bool false,.none] }
theorem type_call_initU {K:PySem.W.Frag}(Gn:ExcBaseFacts Bn newId inN bmN)(zB:bmB.contains (.type Bn)=true)(F:ExcBaseFacts B nid initId bmB)(T:OwnTail h bmB bm){rest:List Value}{fI:Addr}{oI:Obj}{Q:Fin→Shared→Prop}(X:K.In h)
    (zC:h.get? C=some (excClassObj nm q C N bs bm hdc sn sub ab col dd k0 k1 k2 k3 k5 newId)) (hi:PySem.W.findIn K (.ref C) "__init__"=some (some (.ref fI))) (zf:h.get? fI=some oI) (hfc:oI.cls=.type "function")
    (zq:∀ h' e,Heap.MadeExcOf h h' e (.ref C) rest→wpAny (model prog w) A (call (.ref fI) (.ref e::rest)) (fun r s'=>r=.none∧Q (.done (.ret (.ref e))) s') E ⟨h',g,d,t,os⟩) (zr:rest.length≤sizeLine) :
    wpAny (model prog w) A (Builtin.«type.__call__» ⟨.ref C::rest,[]⟩) Q E ⟨h,g,d,t,os⟩:=by
  repeat (first | with_reducible refine wpAny_loadPart_at zC ?_ | with_reducible refine wpAny_madeBy_exc zC ?_ | wp_step)
  refine codeAny_call_builtin_code (Code.quiet_builtin _ Gn.quiet) (wpAny_check_new_subU Gn zB T zC ?_)
  refine codeAny_exc_new_subU Gn zB F T zC ?_ zr
  show wpAny _ _ _ _ _ _
  have kp:∀ b o,h.get? b=some o→((h.push (excT rest)).push (excB C h.objs.size)).get? b=some o:=fun b o e=>Heap.get?_push_of_some _ (Heap.get?_push_of_some _ e)
  have gE:((h.push (excT rest)).push (excB C h.objs.size)).get? (h.objs.size+1)=some (excB C h.objs.size):=by heap_get
  have cC:(Value.ref C::bm).contains (.ref C)=true:=by simp
  unfold isInstance
  repeat (first | with_reducible refine wpAny_loadPart_at gE ?_ | (with_reducible refine wpAny_isSubtype_exc (kp _ _ zC) ?_;rw [cC]) | wp_step)
  show wpAny _ _ (typeLookup (.ref C) _) _ _ _
  refine PySem.W.looks_findIn X hi _ _ _ _ kp ?_
  refine wpAny_holding (wpAny_bind ?_)
  unfold bindSpecial
  refine wpAny_bind (wpAny_typeOf (T:="function") ⟨_,kp _ _ zf,hfc⟩ ?_)
  rw [if_pos (by decide)]
  refine wpAny_pure (wpAny_bind (wpAny_mono (zq _ (h.objs.size+1) ⟨kp,Heap.get?_none_of_le (Nat.le_succ _),h.objs.size,gE,Heap.get?_none_of_le (Nat.le_refl _),?_⟩) (fun r s' hr=>?_) fun _ _ x=>x))
  · exact Heap.get?_push_of_some _ (Heap.get?_push_at rfl rfl)
  · obtain ⟨rfl,hQ⟩:=hr
    wp_walk
    exact hQ
theorem call_exc_initU {K:PySem.W.Frag}(Gn:ExcBaseFacts Bn newId inN bmN)(zB:bmB.contains (.type Bn)=true)(F:ExcBaseFacts B nid initId bmB)(T:OwnTail h bmB bm){rest:List Value}{fI:Addr}{oI:Obj}{Q:Value→Shared→Prop}(X:K.In h)
    (zC:h.get? C=some (excClassObj nm q C N bs bm hdc sn sub ab col dd k0 k1 k2 k3 k5 newId)) (hi:PySem.W.findIn K (.ref C) "__init__"=some (some (.ref fI))) (zf:h.get? fI=some oI) (hfc:oI.cls=.type "function")
    (zq:∀ h' e,Heap.MadeExcOf h h' e (.ref C) rest→wpAny (model prog w) (A.under (.builtin "type.__call__" ⟨.ref C::rest,[]⟩)) (call (.ref fI) (.ref e::rest)) (fun r s'=>r=.none∧Q (.ref e) s') E ⟨h',g,d,t,os⟩) (zr:rest.length≤sizeLine) :
    wpAny (model prog w) A (call (.ref C) rest) Q E ⟨h,g,d,t,os⟩:=by
  have f1:=tc_lookup
  have f2:=tc_bind (.ref C)
  have hT:(⟨h,g,d,t,os⟩:Shared).TypeIs (.ref C) "type":=⟨_,zC,rfl⟩
  refine wpAny_call (codeAny_of_tree ?_)
  show wpAny _ _ (callAny (.ref C) _) _ _ _
  repeat (any_goals (first | assumption | with_reducible refine wpAny_loadPart_at zC ?_ | wp_step))
  refine ⟨rfl,?_⟩
  refine codeAny_call_builtin_at (Code.quiet_builtin _ (by decide +kernel)) entry_typeCall (wpAny_check_type_call_sub zC (type_call_initU Gn zB F T X zC hi zf hfc (fun h' e hm=>?_) zr))
  exact zq h' e hm
theorem exc_init_call (F:ExcBaseFacts B nid initId bmB)(T:OwnTail h bmB bm){e ta:Addr}{rest:List Value}{Q:Value→Shared→Prop}(zC:h.get? C=some (excClassObj nm q C N bs bm hdc sn sub ab col dd k0 k1 k2 k3 k5 newId))(he:h.get? e=some (excB C ta))
    (zq:∀ h' tb,(∀ b o,b≠e→h.get? b=some o→h'.get? b=some o)→h'.get? e=some (excB C tb)→Q .none ⟨h',g,d,t,os⟩) (zr:rest.length≤sizeLine) :
    wpAny (model prog w) A (call (.builtin initId) (.ref e::rest)) Q E ⟨h,g,d,t,os⟩:=by
  refine wpAny_call (codeAny_call_builtin F.init.plain F.initEntry (wpAny_check_init_subU F T zC he rfl ?_))
  wp_walk
  refine zq _ h.objs.size (fun b o nb eb=>?_) ?_
  · rw [Heap.get?_update_other _ _ (Ne.symm nb)]
    exact Heap.get?_push_of_some _ eb
  · rw [Heap.get?_update_self _ (Heap.get?_push_of_some _ he) rfl]
    rfl
end
def tFStrI (te:TE):TE:=fun σ H Q=>te σ H fun v H1=>∃ i:Int,v=.int i∧i.natAbs.log2<1000∧∀ z,Q (.str z) H1
def tFStrR (te:TE):TE:=fun σ H Q=>te σ H fun v H1=>∃ x:Str,v=.str x∧(reprText x).length≤1000∧∀ z,Q (.str z) H1
theorem tFStrI_ap {te:TE}{σ:St}{H:Hp}{Q:VK}:tFStrI te σ H Q=te σ H fun v H1=>∃ i:Int,v=.int i∧i.natAbs.log2<1000∧∀ z,Q (.str z) H1:=rfl
theorem tFStrR_ap {te:TE}{σ:St}{H:Hp}{Q:VK}:tFStrR te σ H Q=te σ H fun v H1=>∃ x:Str,v=.str x∧(reprText x).length≤1000∧∀ z,Q (.str z) H1:=rfl
section
variable {X:Cx}{x:Str}{e:Expr}{te:TE}{j:Nat}{p1 p3 pos:Pos}
theorem two_le {x y:Str}(hx:x.length≤1000)(hy:y.length≤100000):(Str.empty++x++y).length≤sizeLine:=by
  rw [strLen_append,Str.empty_append]
  exact Nat.le_trans (Nat.add_le_add hx hy) (by decide)
theorem pe_fstrI (he:PE X e te)(hx:x.length≤1000:=by decide):PE X (.JoinedStr [.Constant (.str x) j p1,.FormattedValue e (-1) none p3] pos) (tFStrI te):=by
  intro pins s σ H Q I h
  refine JoinedStr_many (joinParts_cons (Calls.Constant_str ⟨?_,?_⟩))
  · rw [Str.empty_append]
    exact Nat.le_trans hx (by decide)
  show wpAny _ _ (joinParts (Str.empty++x) (eval (.FormattedValue e (-1) none p3) X.env::[])) _ _ _
  refine joinParts_cons (PyProof.Rows.FormattedValue_plain (thn (he pins _ σ H _ (I.tok _) h) fun u s1 ⟨v,H1,I1,r1,i,ev,hi,q⟩=>?_))
  subst ev
  obtain ⟨tk,rfl⟩:=r1
  have hl:(Str.ofString (toString i)).length≤100000:=by
    rw [PySem.ofString_length]
    exact Nat.le_trans (int_text_length_le (k:=1000) (by decide) hi) (by decide)
  exact wpAny_formatField_int (Nat.lt_of_lt_of_le hi (by decide)) ⟨two_le hx hl,joinParts_nil ⟨.str _,H1,I1.kept fun _ _ e=>e,⟨_,rfl⟩,q _⟩ (two_le hx hl)⟩
theorem pe_fstrR (he:PE X e te)(hx:x.length≤1000:=by decide):PE X (.JoinedStr [.Constant (.str x) j p1,.FormattedValue e 114 none p3] pos) (tFStrR te):=by
  intro pins s σ H Q I h
  refine JoinedStr_many (joinParts_cons (Calls.Constant_str ⟨?_,?_⟩))
  · rw [Str.empty_append]
    exact Nat.le_trans hx (by decide)
  show wpAny _ _ (joinParts (Str.empty++x) (eval (.FormattedValue e 114 none p3) X.env::[])) _ _ _
  refine joinParts_cons (wpAny_FormattedValue_repr (thn (he pins _ σ H _ (I.tok _) h) fun u s1 ⟨v,H1,I1,r1,y,ev,hi,q⟩=>?_))
  subst ev
  obtain ⟨tk,rfl⟩:=r1
  have hl:(reprText y).length≤100000:=Nat.le_trans hi (by decide)
  have hs:(reprText y).length≤sizeLine:=Nat.le_trans hi (by decide)
  refine wpAny_pyReprObj_str (PyProof.Rows.formatField_str (fun t' tk'=>⟨two_le hx hl,joinParts_nil ⟨.str _,H1,I1.kept fun _ _ e=>e,⟨_,rfl⟩,q _⟩ (two_le hx hl)⟩) hs) hs
end
end L2
namespace L2
open PySem PySem.Spec PyProof.Rows Builtin Builtin.ObjectAttr
structure XFld (K:PySem.W.Frag)(C M:Addr):Prop where
  cls:∃ cd,PySem.W.clsIn K C=some cd∧cd.mro=.ref C::.ref M::bmVal∧cd.hasDict=true
  sa:PySem.W.findIn K (.ref C) "__setattr__"=some (some (.builtin "object.__setattr__"))
  ob:PySem.W.mroIn K C (.type "object")=some true
section
variable {prog:Program}{w:World}{A:Around}{E:Value→Shared→Prop}{s:Shared}{K:PySem.W.Frag}{C M e ta:Addr}{name:Str}{v:Value}
theorem exc_inst (he:s.heap.get? e=some (excB C ta)):PySem.W.InstAt s.heap e (excB C ta) C none:=⟨he,rfl,rfl,True.intro⟩
theorem exc_set {Q:Unit→Shared→Prop}(X:K.In s.heap)(Z:XFld K C M)(he:s.heap.get? e=some (excB C ta))(ht:PySem.W.findIn K (.ref C) name=some none)
    (zq:∀ h' dx,s.heap.get? dx=none→(∀ b o,b≠e→s.heap.get? b=some o→h'.get? b=some o)→h'.get? e=some { excB C ta with dict:=some dx }→h'.Ns1 dx (fun y=>if y=name then some v else none)→Q () { s with heap:=h',toks:=s.toks+2 }) :
    wpAny (model prog w) A (setAttr (.ref e) name v) Q E s:=by
  obtain ⟨cd,hc,hm,hd⟩:=Z.cls
  have J:=exc_inst he
  refine PySem.W.set_plain X J Z.sa ?_
  have SF:=PySem.F.store_object
  have sub:PySem.W.Looks (model prog w) s.heap (isInstance (.ref e) (.type "object")) true:=J.type.andThen (PySem.W.looks_mroIn X Z.ob)
  refine codeAny_call_builtin SF.slot.plain SF.entry (@PySem.W.check_slot (model prog w) _ _ { s with toks:=s.toks+1 } "object.__setattr__" "object" "__setattr__" (.ref e) [.str name s.toks,v] [] _ SF.kind SF.split sub (SF.args (.ref e) (.str name s.toks) v) ?_)
  have hmro:PySem.W.Looks (model prog w) s.heap (mroOf (.ref C)) cd.mro:=(PySem.W.looks_clsIn X hc).andThen .now
  rw [PySem.W.osa_eq,refuse_eq]
  refine wpAny_bind (wpAny_bind (PySem.W.Looks.here (s:={ s with toks:=s.toks+1 }) J.type (wpAny_bind (PySem.W.Looks.here (s:={ s with toks:=s.toks+1 }) hmro ?_))))
  rw [hm,refuseLoop_ref,refuseLoop_ref,PySem.F.store_ValueError.passes]
  refine wpAny_pure (wpAny_bind (PySem.W.Looks.here (s:={ s with toks:=s.toks+1 }) J.type (wpAny_bind (PySem.W.Looks.here (s:={ s with toks:=s.toks+1 }) (PySem.W.looks_findIn X ht) ?_))))
  have hx:(⟨s.heap,s.gens,s.drawn,s.toks+1,s.os⟩:Shared).heap.get? e=some (excB C ta):=he
  refine wpAny_bind (wpAny_pure ?_)
  show wpAny _ _ (storeInOwnDict (Value.ref e) (Value.ref C) (Value.str name s.toks) name v false) _ _ _
  refine wpAny_bind (wpAny_pure (wpAny_bind ?_))
  show wpAny _ _ (instanceDict e true) _ _ _
  refine wpAny_bind (wpAny_loadPart hx ?_)
  refine wpAny_bind (PySem.W.Looks.here (s:={ s with toks:=s.toks+1 }) (PySem.W.looks_clsIn X hc) ?_)
  rw [hd]
  show wpAny _ _ (do
    let d ← alloc PySem.W.emptyDict
    update e fun o=>{ o with dict:=some d }
    dictMade (.ref C) e d) _ _ _
  have g0:(s.heap.push PySem.W.emptyDict).get? e=some (excB C ta):=Heap.get?_push_of_some _ he
  refine wpAny_bind (wpAny_alloc (wpAny_bind (wpAny_update g0 (wpAny_pure ?_))))
  have ne:e≠s.heap.objs.size:=Nat.ne_of_lt (Heap.lt_size he)
  have gE:((s.heap.push PySem.W.emptyDict).update e fun o=>{ o with dict:=some s.heap.objs.size }).get? e=some { excB C ta with dict:=some s.heap.objs.size }:=by
    rw [Heap.get?_update_self _ g0 rfl]
  have gD:((s.heap.push PySem.W.emptyDict).update e fun o=>{ o with dict:=some s.heap.objs.size }).get? s.heap.objs.size=some PySem.W.emptyDict:=by
    rw [Heap.get?_update_other _ _ ne]
    exact Heap.get?_push_size s.heap rfl
  have gO:∀ b o,b≠e→s.heap.get? b=some o→((s.heap.push PySem.W.emptyDict).update e fun o=>{ o with dict:=some s.heap.objs.size }).get? b=some o:=fun b o nb eb=>by
    rw [Heap.get?_update_other _ _ (Ne.symm nb)]
    exact Heap.get?_push_of_some _ eb
  generalize ((s.heap.push PySem.W.emptyDict).update e fun o=>{ o with dict:=some s.heap.objs.size })=h1 at gE gD gO ⊢
  have n1:h1.Ns1 s.heap.objs.size (fun _=>none):=by
    refine ⟨_,#[],_,gD,rfl,(fun e he=>absurd he (by simp)),?_,fun _=>rfl⟩
    exact List.Pairwise.nil
  show wpAny _ _ (storeInDict s.heap.objs.size (Value.str name s.toks) name v) _ _ _
  refine wpAny_bind (wpAny_pure (wpAny_bind ?_))
  refine wpAny_nsSet1 (s:=⟨h1,s.gens,s.drawn,s.toks+1,s.os⟩) n1 fun h' hn2 hs2=>?_
  obtain ⟨oD,esD,epD,hoD,hdD,hcD⟩:=hn2.count (ns:=[name]) (PySem.Within.cons name v (ns:=[]) fun _ z=>absurd rfl z)
  refine wpAny_bind (wpAny_lookBehind hoD (by rw [hdD];exact pastItsLine_dict (Nat.le_trans hcD (by show 1≤_;decide))) ?_)
  refine wpAny_pure (zq h' s.heap.objs.size (Heap.get?_none_of_le (Nat.le_refl _)) (fun b o nb eb=>?_) ?_ hn2)
  · exact (hs2.2 b (Nat.ne_of_lt (Heap.lt_size eb))).trans (gO b o nb eb)
  · exact (hs2.2 e ne).trans gE
end
end L2
namespace L2
open PySem PySem.Spec PyProof.Rows Builtin Builtin.ObjectAttr PySem.W
abbrev excD (C t dx:Addr):Obj:={ excB C t with dict:=some dx }
section
variable {prog:Program}{w:World}{A:Around}{E:Value→Shared→Prop}{s:Shared}{K:Frag}{C e ta dx:Addr}{name:Str}{v:Value}
theorem exc_get {expr:Bool}{Q:Value→Shared→Prop}{mA:Str→Option Value}(X:K.In s.heap)(Z:EX.XIsi K C)(hh:hasDictIn K C=true)(he:s.heap.get? e=some (excD C ta dx))(hn:s.heap.Ns1 dx mA)(ha:findIn K (.ref C) name=some none)(hv:mA name=some v)(hv':handedIn v=true)
    (zq:Q v { s with toks:=s.toks+1 }):wpAny (model prog w) A (getAttr (.ref e) name expr) Q E s:=by
  obtain ⟨od,ho,hl⟩:=lookIn_ns hn
  have J:InstAt s.heap e (excD C ta dx) C (some od):=⟨he,rfl,rfl,ho⟩
  have fo:findObj K C (some od) name=some (.value v):=findObj_own hh ha rfl (by rw [hl,hv])
  obtain ⟨hp,g,dr,t,os⟩:=s
  have L0:=J.type (M:=model prog w)
  have L1:=looks_findIn (M:=model prog w) X Z.ga
  have L2:=looks_findIn (M:=model prog w) X Z.no
  have L3:=looks_find (M:=model prog w) X J fo
  have f3:=F.excAttr_ValueError.ga.bind (.ref e)
  have z0:(expr&&onTheHeap (Value.builtin "BaseException.__getattribute__"))=false:=Bool.and_false _
  have z2:(Value.builtin "BaseException.__getattribute__"==Value.builtin "object.__getattribute__")=false:=by decide +kernel
  have z1:(onTheHeap (Value.ref C)&&Value.builtin "BaseException.__getattribute__"==Value.builtin "object.__getattribute__")=false:=by rw [z2];rfl
  unfold getAttr getAttrBy
  repeat (any_goals (first | assumption | with_reducible refine L0.at ?_ | with_reducible refine L1.at ?_ | with_reducible refine L2.at ?_ | wp_step))
  refine codeAny_call_builtin F.excAttr_ValueError.ga.plain F.entry_bexc_ga (EX.xcheck_ga (s:=⟨hp,g,dr,t+1,os⟩) Z X L0 ?_)
  show wpAny _ _ (Builtin.«object.__getattribute__» ⟨[.ref e,.str name t],[]⟩) _ _ _
  refine wpAny_bind (wpAny_pure (wpAny_bind (wpAny_pure (wpAny_bind (L0.at (wpAny_bind (L3.at ?_)))))))
  refine wpAny_pure ?_
  show wpAny _ _ (handedOut v) _ _ _
  rw [handedOut_of hv']
  exact wpAny_pure zq
end
end L2
namespace L2
open PySem PySem.Spec PyProof.Rows
structure XMk (K:PySem.W.Frag)(C M f:Addr):Prop where
  lk:∃ (nm q:Str) (N:Addr) (bs:List Value) (hd:Bool) (sn:List Str) (sub:List Value) (ab:Bool) (col:Option Bool) (dd:Option Addr) (k0 k1 k2 k3 k5:Option Value),K.lookup C=some (excClassObj nm q C N bs (.ref M::bmVal) hd sn sub ab col dd k0 k1 k2 k3 k5 "ValueError.__new__")
  lkM:∃ (nm q:Str) (N:Addr) (bs:List Value) (hd:Bool) (sn:List Str) (sub:List Value) (ab:Bool) (col:Option Bool) (dd:Option Addr) (k0 k1 k2 k3 k5:Option Value),K.lookup M=some (excClassObj nm q M N bs bmVal hd sn sub ab col dd k0 k1 k2 k3 k5 "ValueError.__new__")
  m:XCls K M
  init:PySem.W.findIn K (.ref C) "__init__"=some (some (.ref f))
  fn:PySem.W.typeIn K (.ref f)=some (.type "function")
  kp:PySem.W.keepIn K (.ref C)=true
theorem XMk.tail {K:PySem.W.Frag}{C M f:Addr}{h:Heap}(x:XMk K C M f)(X:K.In h):OwnTail h bmVal (.ref M::bmVal):=by
  obtain ⟨nm,q,N,bs,hd,sn,sub,ab,col,dd,k0,k1,k2,k3,k5,lkM⟩:=x.lkM
  obtain ⟨nm',q',N',bs',bm',hd',sn',sub',ab',col',dd',j0,j1,j2,j3,j5,mN,hM,hN,hni,T⟩:=x.m.obj X
  have e:=X _ _ lkM
  rw [hM] at e
  unfold excClassObj at e
  injection e with e
  injection e with e1 e2 e3 e4
  injection e3 with e3
  injection e3 with f1 f2 f3 f4
  injection f3 with f5 f6
  subst f6
  exact .own hM hN hni T
section
variable {X:Cx}{C M f:Addr}{fd:FuncData}{k:Nat}{ps:List Str}{sp:Sp}{E:XK}{CX:CXT}{x:Str}{p pos:Pos}{e:Expr}{es:List Expr}{t:TA}
theorem fn_obj {K:PySem.W.Frag}{h:Heap}(X:K.In h)(e:PySem.W.typeIn K (.ref f)=some (.type "function")):∃ o,h.get? f=some o∧o.cls=.type "function":=by
  unfold PySem.W.typeIn at e
  obtain ⟨o,h1,h2⟩:=Option.map_eq_some_iff.mp e
  exact ⟨o,X _ _ h1,h2⟩
def tMakeX (C:Addr)(sp:Sp)(E:XK)(t:TA):TE:=fun σ H Q=>t σ H fun vs H1=>vs.length≤1000∧∀ x,H1 x=none→sp (.ref x::vs) (upd H1 x (excO x C)) (fun v H2=>v=.non∧Q (.ref x) H2) E
theorem run_makeX {pins:List (Addr × Obj)}{σ:St}{H:Hp}{s:Shared}{Q:VK}{us:List Value}{vs:List V}(x:XMk X.K C M f)(F:FnOk X.prog X.w X.K X.mg X.base CX k f fd ps sp)(hr:Room (k+1) X.A)(hb:Binds X.K fd ps [])(hx:Passes CX X E)(I:Inv X pins σ H s)(r:Vals vs us)(hl:vs.length≤1000)
    (h:∀ e,H e=none→sp (.ref e::vs) (upd H e (excO e C)) (fun v H2=>v=.non∧Q (.ref e) H2) E) :
    wpAny (model X.prog X.w) X.A (call (.ref C) us) (EP X pins σ Q) X.xe s:=by
  obtain ⟨nm,q,N,bs,hd,sn,sub,ab,col,dd,k0,k1,k2,k3,k5,lk⟩:=x.lk
  obtain ⟨oI,hf,hfc⟩:=fn_obj I.kIn x.fn
  obtain ⟨h0,g,d,tk,os⟩:=s
  refine call_exc_initU PySem.F.excBase_ValueError (by decide +kernel) PySem.F.excBase_ValueError (x.tail I.kIn) I.kIn (I.kIn _ _ lk) x.init hf hfc (fun h' e m=>?_) (by rw [← r.length];exact Nat.le_trans hl (by decide))
  obtain ⟨t,e1,_,_⟩:=m.there
  have hq:=h e (I.hok.free m.new)
  have I2:=I.laid0 (t':=tk) m.keeps m.new (excO_ok (C:=C) e1)
  have r2:Vals (V.ref e::vs) (Value.ref e::us):=.cons rfl r
  have hl2:(Value.ref e::us++[]).length=ps.length:=by
    rw [List.append_nil,← F.len _ _ _ _ hq]
    exact r2.length.symm
  refine wpAny_call (codeAny_mono (F.run _ X.stack _ _ ⟨Value.ref e::us,[]⟩ (Value.ref e::us) _ _ E (hr.make C us []) (I2.env0.make C us []) (by have z:=hb _ (Value.ref e::us) I2.kIn hl2;rw [List.append_nil] at z;exact z) r2 hq) fun r s' hq'=>?_)
  cases r with
  | error e=>exact hx pins σ _ _ e s' I2 hq'
  | ok fl =>
    cases fl with
    | ret u =>
      obtain ⟨v,H',I3,rv,ev,q3⟩:=I2.after hq'
      subst ev
      exact ⟨rv,⟨V.ref e,H',I3,rfl,q3⟩⟩
    | next=>exact False.elim hq'
    | brk=>exact False.elim hq'
    | cont=>exact False.elim hq'
def MakeX (P:Program)(w:World)(K:PySem.W.Frag)(mg:Str→Option Value)(base:Heap)(x:Str)(C:Addr)(ps:List Str)(k:Nat)(sp:Sp):Prop :=
  mg x=some (.ref C)∧∃ M f fd,XMk K C M f∧FnOk P w K mg base CX0 k f fd ps sp∧Binds K fd ps []
theorem pe_makeX (F:MakeX X.prog X.w X.K X.mg X.base x C ps k sp)(hr:Room (k+1) X.A)(hg:Gl X x)(ha:PA X (e::es) t)
    (hdb:(x==("__debug__":Str))=false:=by decide) (he:starEach (e::es) X.env=(false,eval e X.env)::starEach es X.env:=by rfl) (hpl:(backTo pos (starEach es X.env)).any (·.1)=false:=by rfl) :
    PE X (.Call (.Name x p) (e::es) [] pos) (tMakeX C sp E0 t):=by
  obtain ⟨hm,M,f,fd,xm,F,b⟩:=F
  intro pins s σ H Q I h
  refine wpAny_Call_Name_kw (ld_glob I hg hm ?_ hdb)
  refine PySem.W.callWith_K (h₀:=X.base) I.ok.mod.kin xm.kp (thn (ha pos pins s σ H _ I h) fun us s1 ⟨vs,H1,I1,r,hl,q⟩=>⟨I1.kIn,?_⟩) he hpl
  exact run_makeX xm F hr b pass0 I1 r hl q
structure XIni (K:PySem.W.Frag)(M:Addr):Prop where
  sp:PySem.W.specialIn K (.ref M) "__getattribute__"=some (some (.builtin "type.__getattribute__"))
  rd:PySem.W.readsIn K M (.type "type")=true
  fc:PySem.W.findCls K (.ref M) (.type "type") "__init__"=some (.val (.builtin "ValueError.__init__"))
def rIniX (K:PySem.W.Frag):List V→Hp→VK→Prop:=fun xs H Q=>∃ (e C M f:Addr) (v:V),xs=[.ref e,v]∧H e=some (excO e C)∧XMk K C M f∧Q .non H
theorem upd_id {H:Hp}{a:Addr}{o:HO}(h:H a=some o):upd H a o=H:=by
  funext b
  by_cases c:b=a
  · rw [c,upd_same,h]
  · exact upd_ne c
theorem call_iniX (K:PySem.W.Frag)(hK:X.K=K:=by rfl):CallR X (.builtin "ValueError.__init__") (rIniX K):=by
  subst hK
  intro pins s σ H xs us Q I r h
  obtain ⟨e,C,M,f,v,rfl,he,xm,q⟩:=h
  obtain ⟨nm,qq,N,bs,hd,sn,sub,ab,col,dd,k0,k1,k2,k3,k5,lk⟩:=xm.lk
  obtain ⟨⟨t,ge⟩,_,_⟩:=(show ObjOk X.prog X.w H s.heap e (excO e C) from I.hok _ _ he)
  cases r with
  | cons r1 r2 =>
    cases r1
    cases r2 with
    | cons r3 r4 =>
      cases r4
      obtain ⟨h0,g,d,tk,os⟩:=s
      refine exc_init_call PySem.F.excBase_ValueError (xm.tail I.kIn) (I.kIn _ _ lk) ge (fun h' tb kp ge'=>?_) (by show 1≤sizeLine;decide)
      have I2:=I.write (x:=e) (e:=e) (o:=excO e C) (t':=tk) (h':=h') (by rw [he];exact True.intro) (.inl rfl) kp ⟨_,ge'⟩ (excO_ok ge')
      rw [upd_id he] at I2
      exact ⟨.non,H,I2,rfl,q⟩
theorem pe_iniX {m:Str}{r:List V→Hp→VK→Prop}{id:String}{pl:Sem Bool}{apos:Pos}(hc:CallR X (.builtin id) r)(hg:Gl X x)(hm:X.mg x=some (.ref M))(sp:PySem.W.specialIn X.K (.ref M) "__getattribute__"=some (some (.builtin "type.__getattribute__")))(rd:PySem.W.readsIn X.K M (.type "type")=true)(fc:PySem.W.findCls X.K (.ref M) (.type "type") m=some (.val (.builtin id)))(hh:PySem.W.handedIn (.builtin id)=true)
    (ha:PA X (e::es) t) (hdb:(x==("__debug__":Str))=false:=by decide) (he:starEach (e::es) X.env=(false,eval e X.env)::starEach es X.env:=by rfl) (hpl:(backTo pos (starEach es X.env)).any (·.1)=false:=by rfl)
    (ht:eval (.Call (.Attribute (.Name x p) m apos) (e::es) [] pos) X.env=(do
      let ov ← eval (.Name x p) X.env
      standAt apos.atName
      let (f,first) ← holding [ov] (getMethod ov m pl)
      callWith pos f first (backTo pos (starEach (e::es) X.env)) (backToKw pos (keywordEach [] X.env))):=by rfl) :
    PE X (.Call (.Attribute (.Name x p) m apos) (e::es) [] pos) (tCB r t):=by
  intro pins s σ H Q I h
  refine PySem.W.methodCall_KW (pl:=pl) (ld_glob I hg hm ?_ hdb) ht
  refine PySem.W.method_cls I.kIn sp (PySem.W.cls_value I.kIn rd fc hh ?_)
  exact PyProof.Rows.callWith_builtin1 (thn (ha pos pins _ σ H _ (I.tok _) h) fun us s1 ⟨vs,H1,I1,r1,q1⟩=>hc pins s1 σ H1 vs us Q I1 r1 q1) he hpl
end
end L2
namespace L2
open PySem PySem.Spec PyProof.Rows
def excH (e C dx:Addr):HO:=.ext fun h=>∃ t,h.get? e=some (excD C t dx)
theorem excH_ok {P:Program}{w:World}{H:Hp}{h:Heap}{e C t dx:Addr}(q:h.get? e=some (excD C t dx)):ObjOk P w H h e (excH e C dx) :=
  ⟨⟨t,q⟩,⟨_,q⟩,fun h1 h2 ⟨t1,e1⟩ k=>⟨t1,k _ e1⟩⟩
section
variable {X:Cx}{o value:Expr}{f:Str}{ta tv:TE}{pos pos':Pos}
def sFldX (K:PySem.W.Frag)(ta tv:TE)(f:Str):TS:=fun D σ H=>tv σ H fun y H1=>ta σ H1 fun x H2=>∃ e C M,x=.ref e∧H2 e=some (excO e C)∧XFld K C M∧PySem.W.findIn K (.ref C) f=some none∧∀ dx,H2 dx=none→dx≠e→D.nx σ (upd (upd H2 dx (.xd [(f,y)])) e (excH e C dx))
theorem sFldX_ap {K:PySem.W.Frag}{D:Ends}{σ:St}{H:Hp}:sFldX K ta tv f D σ H=tv σ H fun y H1=>ta σ H1 fun x H2=>∃ e C M,x=.ref e∧H2 e=some (excO e C)∧XFld K C M∧PySem.W.findIn K (.ref C) f=some none∧∀ dx,H2 dx=none→dx≠e→D.nx σ (upd (upd H2 dx (.xd [(f,y)])) e (excH e C dx)):=rfl
theorem ps_fldX (K:PySem.W.Frag)(ha:PE X o ta)(hv:PE X value tv)(hs:swapsWith value (some (.Attribute o f pos')) pos.line X.env=pure false:=by rfl)(hK:X.K=K:=by rfl):PS X (.Assign [.Attribute o f pos'] value pos) (sFldX K ta tv f):=by
  subst hK
  intro pins s σ H D I h
  refine plainObj_wpAny_Assign_Attribute (thn (hv pins s σ H _ I h) fun u s1 ⟨y,H1,I1,ry,q⟩=>thn (ha pins s1 σ H1 _ I1 q) fun ov s2 ⟨x,H2,I2,rx,e,C,M,ex,ee,Z,nf,q2⟩=>?_) hs
  subst ex
  obtain rfl:ov=Value.ref e:=rx
  obtain ⟨⟨t,ge⟩,_,_⟩:=(show ObjOk X.prog X.w H2 s2.heap e (excO e C) from I2.hok _ _ ee)
  refine exc_set I2.kIn Z ge nf fun h' dx ndx kp ge' ns=>?_
  have hdx:H2 dx=none:=I2.hok.free ndx
  have ne:dx≠e:=fun z=>by rw [z,ge] at ndx;cases ndx
  have gm:(h'.update e fun _=>excB C t).get? e=some (excB C t):=by rw [Heap.get?_update_self _ ge' rfl]
  have gm':∀ b,b≠e→(h'.update e fun _=>excB C t).get? b=h'.get? b:=fun b nb=>Heap.get?_update_other _ _ (Ne.symm nb)
  generalize h'.update e (fun _=>excB C t)=hm at gm gm'
  have I3:=I2.laid0 (h':=hm) (a:=dx) (o:=.xd [(f,y)]) (t':=s2.toks) (fun b v eb=>?_) ndx ?_
  · have I4:=I3.write (x:=e) (e:=e) (o:=excH e C dx) (h':=h') (t':=s2.toks+2) (by rw [upd_ne (Ne.symm ne),ee];exact True.intro) (.inl rfl) (fun b v nb eb=>by rw [gm' b nb] at eb;exact eb) ⟨_,ge'⟩ (excH_ok ge')
    exact ⟨σ,_,I4,q2 dx hdx ne⟩
  · by_cases c:b=e
    · subst c
      rw [ge] at eb
      cases eb
      exact gm
    · rw [gm' b c]
      exact kp b v c eb
  · refine ⟨_,ns.at (fun o eo=>by rw [gm' dx ne];exact eo),fun g=>?_⟩
    show RelO (List.lookup g [(f,y)]) (if g=f then some u else none)
    by_cases c:g=f
    · subst c
      rw [if_pos rfl,List.lookup_cons,beq_self_eq_true]
      exact ry
    · have:(g==f)=false:=by simpa using c
      rw [if_neg c,List.lookup_cons,this]
      exact True.intro
def tFldX (K:PySem.W.Frag)(ta:TE)(f:Str):TE:=fun σ H Q=>ta σ H fun x H1=>∃ e C dx fs v,x=.ref e∧H1 e=some (excH e C dx)∧H1 dx=some (.xd fs)∧fs.lookup f=some v∧EX.XIsi K C∧PySem.W.hasDictIn K C=true∧PySem.W.findIn K (.ref C) f=some none∧Q v H1
theorem pe_fldX (K:PySem.W.Frag)(he:PE X o ta)(hK:X.K=K:=by rfl)(hb:attributeBase o f X.env (eval o X.env)=eval o X.env:=by rfl):PE X (.Attribute o f pos) (tFldX K ta f):=by
  subst hK
  intro pins s σ H Q I h
  refine attr_of hb (thn (he pins s σ H _ I h) fun u s1 ⟨x,H1,I1,rx,e,C,dx,fs,v,ex,ee,ed,l,Z,hd,nf,q⟩=>?_)
  subst ex
  obtain rfl:u=Value.ref e:=rx
  obtain ⟨⟨t,ge⟩,_,_⟩:=(show ObjOk X.prog X.w H1 s1.heap e (excH e C dx) from I1.hok _ _ ee)
  obtain ⟨mA,ns,r⟩:=(show ObjOk X.prog X.w H1 s1.heap dx (.xd fs) from I1.hok _ _ ed)
  obtain ⟨u,hu,ru⟩:=RelO.some_of (v:=v) (o:=mA f) (by rw [← l];exact r f)
  exact exc_get I1.kIn Z hd ge ns nf hu (handed_of ru) ⟨v,H1,I1.tok _,ru,q⟩
def ExAt (H:Hp)(e C:Addr):Prop:=H e=some (excO e C)∨∃ dx,H e=some (excH e C dx)
def rIsiE (K:PySem.W.Frag):List V→Hp→VK→Prop:=fun xs H Q=>∃ e C y c b,xs=[.ref e,y]∧vOf y=some c∧ExAt H e C∧EX.XIsi K C∧PySem.W.kitOne K (.ref C) c=some b∧Q (.bl b) H
theorem call_isiE (K:PySem.W.Frag)(hK:X.K=K:=by rfl):CallR X (.builtin "isinstance") (rIsiE K):=by
  subst hK
  intro pins s σ H xs us Q I r h
  obtain ⟨e,C,y,c,b,rfl,hy,hx,Z,hb,q⟩:=h
  obtain ⟨u,v,rfl,ru,rv⟩:=r.two
  have ev:v=c:=by
    cases y with
    | ty n=>cases (show v=Value.type n from rv);exact Option.some.inj hy
    | ref a=>cases (show v=Value.ref a from rv);exact Option.some.inj hy
    | _=>cases hy
  subst ev
  cases ru
  obtain ⟨oe,ge,hc⟩:∃ oe,s.heap.get? e=some oe∧oe.cls=.ref C:=by
    rcases hx with z | ⟨dx,z⟩
    · obtain ⟨⟨t,ge⟩,_,_⟩:=(show ObjOk X.prog X.w H s.heap e (excO e C) from I.hok _ _ z)
      exact ⟨_,ge,rfl⟩
    · obtain ⟨⟨t,ge⟩,_,_⟩:=(show ObjOk X.prog X.w H s.heap e (excH e C dx) from I.hok _ _ z)
      exact ⟨_,ge,rfl⟩
  exact PySem.W.kia_one (EX.kitx_exc Z hc) I.kIn ge hb (by intro z;cases z) fun tk=>⟨.bl b,H,I.kept (t':=tk) fun _ _ e=>e,rfl,q⟩
end
end L2
namespace L2
open PySem PySem.Spec PyProof.Rows
theorem boot_ValueError:bootBuiltins "ValueError"=some (.type "ValueError"):=by rfl
section
variable {X:Cx}{C:Addr}{x:Str}{p pos:Pos}{e:Expr}{es:List Expr}{t:TA}
theorem pe_excM (c:XCls X.K C)(hm:X.mg x=some (.ref C))(hg:Gl X x)(ha:PA X (e::es) t)
    (hdb:(x==("__debug__":Str))=false:=by decide) (he:starEach (e::es) X.env=(false,eval e X.env)::starEach es X.env:=by rfl) (hpl:(backTo pos (starEach es X.env)).any (·.1)=false:=by rfl) :
    PE X (.Call (.Name x p) (e::es) [] pos) (tCB (rXMk C) t):=by
  intro pins s σ H Q I h
  refine wpAny_Call_Name_kw (ld_glob I hg hm ?_ hdb)
  refine PySem.W.callWith_K (h₀:=X.base) I.ok.mod.kin c.kp (thn (ha pos pins s σ H _ I h) fun us s1 ⟨vs,H1,I1,r,q⟩=>⟨I1.kIn,?_⟩) he hpl
  exact call_exc c pins s1 σ H1 vs us Q I1 r q
end
def MakerX (K:PySem.W.Frag)(C:Addr)(qual:Str)(st:Stmt)(ps:List Str):Prop:=∃ M f fd,Fun K "__init__" qual st f fd∧XMk K C M f∧Binds K fd ps []
section
variable {P:Program}{w:World}{K:PySem.W.Frag}{mg:Str→Option Value}{base:Heap}
theorem MakeX.of {x:Str}{C:Addr}{qual:Str}{st:Stmt}{N ps:List Str}{k:Nat}{sp:Sp}(hx:mg x=some (.ref C))(d:MakerX K C qual st ps)(S:FnScope N ps (defScope st))(len:∀ vs H Q E,sp vs H Q E→vs.length=ps.length)
    (hbody:∀ (f:Addr) (cdv:Value) (A:Around) (outer:List Env) (s:Shared) (H:Hp) (vs:List V) (Q:VK) (E:XK),Room k (A.deeper (envOfC qual (defScope st) s.heap.objs.size f cdv))→sp vs H Q E →
      ∃ t,PSs (cxOf CX0 P w K mg base N qual (defScope st) f cdv A outer s H E).nox (defBody st) t∧t { nx:=fun _ H'=>Q .non H',rt:=Q } (start N vs) H):MakeX P w K mg base x C ps (k+1) sp:=by
  obtain ⟨M,f,fd,F,m,b⟩:=d
  exact ⟨hx,M,f,fd,m,F.ok S len (hbody f),b⟩
theorem makerX_mk {C M:Addr}{qual:Str}{st:Stmt}{ps:List Str}{f:Addr}{oc:Value}{od an:Option Addr}{osl:Array (Option Value)}{kV doc pm cdv ct:Value}
    (l:K.lookup f=some ⟨oc,od,.func (PySem.W.fnOf "__init__" qual (defArgs st) (defBody st) (defScope st) .none kV doc pm an cdv ct),osl⟩) (c:PySem.W.codeIn K cdv qual=true) (k:PySem.W.keepIn K (.ref f)=true)
    (mk:XMk K C M f)
    (hb:∀ (kV doc pm:Value) (an:Option Addr) (cdv ct:Value) (us:List Value),us.length=ps.length→bindArgs (PySem.W.fnOf "__init__" qual (defArgs st) (defBody st) (defScope st) .none kV doc pm an cdv ct) ⟨us,[]⟩=pure (ps.zip us)):MakerX K C qual st ps :=
  ⟨M,f,_,fun_mk l c k,mk,(fun_mk l c k).binds hb⟩
end
end L2
namespace My
open PySem L2 BM PyProof.Rows
def top (i:Nat):Stmt:=PySem.Challenge.pw_runmarks_k09_refusals.main.body.getD i (.Pass ⟨0,0,0,0⟩)
abbrev s_l_cell_at:Stmt:=top 13
theorem sc_l_cell_at:FnScope ["_law_script","_law_k"] ["_law_script","_law_k"] (defScope s_l_cell_at):=by walk_at "s"
abbrev s_l_whole:Stmt:=top 14
theorem sc_l_whole:FnScope ["_law_found"] ["_law_found"] (defScope s_l_whole):=by walk_at "s"
abbrev s_l_mixed:Stmt:=top 15
theorem sc_l_mixed:FnScope ["_law_cell","_law_k","_law_number"] ["_law_cell","_law_k"] (defScope s_l_mixed):=by walk_at "s"
abbrev s_l_flags:Stmt:=top 16
theorem sc_l_flags:FnScope ["_law_e","_law_some"] ["_law_e"] (defScope s_l_flags):=by walk_at "s"
abbrev s_l_name:Stmt:=top 17
theorem sc_l_name:FnScope ["_law_cell","_law_letters","_law_signs"] ["_law_cell"] (defScope s_l_name):=by walk_at "s"
abbrev s_law:Stmt:=top 18
theorem sc_law:FnScope ["_law_script","_law_place","_law_other","_law_name_here","_law_some","_law_k","_law_again"] ["_law_script"] (defScope s_law):=by walk_at "s"
abbrev s_BadTape___init__:Stmt:=inClass (top 4) 0
theorem sc_BadTape___init__:FnScope ["self","place"] ["self","place"] (defScope s_BadTape___init__):=by walk_at "s"
abbrev s_BadText___init__:Stmt:=inClass (top 5) 0
theorem sc_BadText___init__:FnScope ["self","place"] ["self","place"] (defScope s_BadText___init__):=by walk_at "s"
abbrev s_NoColumn___init__:Stmt:=inClass (top 8) 0
theorem sc_NoColumn___init__:FnScope ["self","name"] ["self","name"] (defScope s_NoColumn___init__):=by walk_at "s"
structure Blt (mg:Str→Option Value):Prop where
  len:mg "len"=none
  range:mg "range"=none
  isi:mg "isinstance"=none
  int:mg "int"=none
  bool:mg "bool"=none
  ValueError:mg "ValueError"=none
def mkX (C:Addr)(sp:Sp)(E:XK)(vs:List V)(H1:Hp)(Q:VK):Prop:=vs.length≤1000∧∀ x,H1 x=none→sp (.ref x::vs) (upd H1 x (excO x C)) (fun v H2=>v=.non∧Q (.ref x) H2) E
theorem tMakeX_mk {C:Addr}{sp:Sp}{E:XK}{t:TA}{σ:L2.St}{H:Hp}{Q:VK}:tMakeX C sp E t σ H Q=t σ H fun vs H1=>mkX C sp E vs H1 Q:=rfl
def fX (K:PySem.W.Frag)(f:Str)(x:V)(H1:Hp)(Q:VK):Prop:=∃ e C dx fs v,x=.ref e∧H1 e=some (excH e C dx)∧H1 dx=some (.xd fs)∧fs.lookup f=some v∧EX.XIsi K C∧PySem.W.hasDictIn K C=true∧PySem.W.findIn K (.ref C) f=some none∧Q v H1
theorem tFldX_fx {K:PySem.W.Frag}{ta:TE}{f:Str}{σ:L2.St}{H:Hp}{Q:VK}:tFldX K ta f σ H Q=ta σ H fun x H1=>fX K f x H1 Q:=rfl
local macro_rules | `(tactic| walk_at "vc")=>`(tactic| ((try dsimp only [tSeq_ap,tFStrI_ap,tFStrR_ap,sFldX_ap,tNext_ap,tAsg_ap,gName_ap,tVar_ap,tC_ap,tOp_ap,rI_ap,rI0_ap,rEq_ap,rNe_ap,tRet_ap,tDrop_ap,tIfS_ap,tTest_ap,tB_ap,tOr_ap,tNot_ap,tAndV_ap,tNotV_ap,tCall_ap,tNil_ap,tCons_ap,tLst_ap,tCB_ap,tBM_ap,rIxL_ap,rIxS_ap,rAppend_ap,rCat_ap,iRng1_ap,tNoTest_ap,tFor_ap,tComp_ap,rLen_ap,rJoin_ap,L2.start,capSt]); (try simp only [tSeq_ap,tFStrI_ap,tFStrR_ap,tMakeX_mk,sFldX_ap,tFldX_fx,tNext_ap,tAsg_ap,gName_ap,tVar_ap,tC_ap,tOp_ap,rI_ap,rI0_ap,rEq_ap,rNe_ap,scal_ii,scal_bb,scal_ss,tRet_ap,tDrop_ap,tIfS_ap,tTest_ap,tB_ap,tOr_ap,tNot_ap,tAndV_ap,tNotV_ap,tCall_ap,tNil_ap,tCons_ap,tLst_ap,tCB_ap,tBM_ap,tyV_int,tyV_list,rIxL_ap,rIxS_ap,rAppend_ap,rCat_ap,iRng1_ap,tNoTest_ap,rIsi_int,rIsi_intb,tFor_ap,tComp_ap,rLen_ap,rJoin_ap,tyV_str,CDiv,CMul,CPow,CShl,L2.start,capSt,List.map_cons,List.map_nil,List.length_cons,List.length_nil,List.append_nil,List.nil_append,List.cons_append,List.getElem?_cons_zero,List.getElem?_cons_succ,List.set_cons_zero,List.set_cons_succ,List.getD_cons_zero,List.getD_cons_succ,rep0,rep1,rep2,rep3,rep4,rep5,rep6,rep7,rep8,rep9,rep10,rep11,Nat.reduceAdd,Nat.reduceSub,Int.reduceLT,Int.reduceLE,Int.reducePow,Int.reduceNeg,Int.reduceMul,Int.reduceAdd,Int.reduceSub,Int.reduceToNat,Int.reduceEq,reduceIte,Option.some.injEq,V.int.injEq,V.bl.injEq,V.ref.injEq,V.str.injEq,V.ty.injEq,List.cons.injEq,exists_and_left,exists_eq_left,exists_eq_left',exists_eq_right,exists_eq',exists_eq,and_true,true_and,Int.zero_add,decide_eq_true_eq,Bool.not_eq_true',decide_eq_false_iff_not,if_true,if_false,Bool.false_eq_true,Bool.true_eq_false,ite_not,not_true_eq_false,not_false_eq_true,Bool.not_true,Bool.not_false,decide_true,decide_false,or_true,true_or,reduceCtorEq,false_and,and_false,exists_false,false_or,or_false])))
def mixI (c k:Int):Int:=((c*48271+k*7919+104729)%2147483647)*((c*48271+k*7919+104729)%2147483647)%2147483629
def spMixed:Sp:=fun vs H Q _=>∃ c k:Int,vs=[.int c,.int k]∧Q (.int (mixI c k)) H
section
variable {P:Program}{w:World}{K:PySem.W.Frag}{mg:Str→Option Value}{base:Heap}
theorem ok_mixed (d:DefAt K mg "_law_mixed" s_l_mixed ["_law_cell","_law_k"]):FnAt P w K mg base "_law_mixed" ["_law_cell","_law_k"] 1 spMixed:=by
  refine FnAt.of d sc_l_mixed (fun vs H Q E h=>?_) (fun f cdv A outer s H vs Q E hr h=>?_)
  · obtain ⟨c,k,rfl,_⟩:=h
    rfl
  obtain ⟨c,k,rfl,q⟩:=h
  refine ⟨_,(pss_cons (ps_set (i:=2) sc_l_mixed.nd rfl (by walk_at "l") (pe_op op_mod (pe_op op_add (pe_op op_add (pe_op op_mul (pv 0) pe_int) (pe_op op_mul (pv 1) pe_int)) pe_int) pe_int))
      (pss_one (ps_ret (pe_op op_mod (pe_op op_mul (pv 2) (pv 2)) pe_int)))),?_⟩
  walk_at "vc"
  have h1:=Int.emod_nonneg (c*48271+k*7919+104729) (b:=2147483647) (by decide)
  have h2:=Int.emod_lt_of_pos (c*48271+k*7919+104729) (b:=2147483647) (by decide)
  exact ⟨.inl ⟨by omega,by omega⟩,q⟩
end
def spCell (K:PySem.W.Frag):Sp:=fun vs H Q _=>∃ (a:Addr) (ns:List Int) (k:Nat),vs=[.ref a,.int k]∧SqL K H a (ns.map V.int)∧Q (.int (ns.getD k 0)) H
section
variable {P:Program}{w:World}{K:PySem.W.Frag}{mg:Str→Option Value}{base:Heap}
theorem ok_cell_at (B:Blt mg)(d:DefAt K mg "_law_cell_at" s_l_cell_at ["_law_script","_law_k"]):FnAt P w K mg base "_law_cell_at" ["_law_script","_law_k"] 1 (spCell K):=by
  refine FnAt.of d sc_l_cell_at (fun vs H Q E h=>?_) (fun f cdv A outer s H vs Q E hr h=>?_)
  · obtain ⟨a,ns,k,rfl,_⟩:=h
    rfl
  obtain ⟨a,ns,k,rfl,hS,q⟩:=h
  refine ⟨_,(pss_cons (ps_if (pt_cmpR op_lt (pv 1) (pe_callB (call_lenK K) rfl B.len PySem.boot_len (pa_cons (pv 0) pa_nil)) (nomark _)) (pss_one (ps_ret (pe_ix (ix_listK K) (pv 0) (pv 1) (fun _ _=>rfl)))) pss_nil)
      (pss_one (ps_ret pe_int))),?_⟩
  walk_at "vc"
  refine ⟨_,.inl hS,?_⟩
  rw [List.length_map]
  by_cases hk:k<ns.length
  · rw [if_pos (by omega)]
    refine ⟨_,hS,.int (ns.getD k 0),atI_nat ?_,q⟩
    rw [List.getElem?_map,List.getElem?_eq_getElem hk,List.getD_eq_getElem?_getD,List.getElem?_eq_getElem hk]
    rfl
  · rw [if_neg (by omega)]
    have e:ns.getD k 0=0:=by rw [List.getD_eq_getElem?_getD,List.getElem?_eq_none (by omega)];rfl
    rw [e] at q
    exact q
end
def spWhole:Sp:=fun vs H Q _=>∃ i:Int,vs=[.int i]∧Q (.bl true) H
section
variable {P:Program}{w:World}{K:PySem.W.Frag}{mg:Str→Option Value}{base:Heap}
theorem ok_whole (B:Blt mg)(d:DefAt K mg "_law_whole" s_l_whole ["_law_found"]):FnAt P w K mg base "_law_whole" ["_law_found"] 1 spWhole:=by
  refine FnAt.of d sc_l_whole (fun vs H Q E h=>?_) (fun f cdv A outer s H vs Q E hr h=>?_)
  · obtain ⟨k,rfl,_⟩:=h
    rfl
  obtain ⟨k,rfl,q⟩:=h
  refine ⟨_,(pss_one (ps_ret (pe_and (pe_callB (call_isiK K) rfl B.isi boot_isi (pa_cons (pv 0) (pa_cons (pe_bltn (v:=.ty "int") rfl B.int boot_int rfl) pa_nil))) (pe_one (pe_not (pe_callB (call_isiK K) rfl B.isi boot_isi (pa_cons (pv 0) (pa_cons (pe_bltn (v:=.ty "bool") rfl B.bool boot_bool rfl) pa_nil)))))))),?_⟩
  walk_at "vc"
  exact q
end
def spLaw (K:PySem.W.Frag):Sp:=fun vs H Q _=>∃ (a:Addr) (ns:List Int),vs=[.ref a]∧SqL K H a (ns.map V.int)∧ns.length≤63∧∀ H',Q (.bl true) H'
def spIniI (C:Addr):Sp:=fun vs H Q _=>∃ (e:Addr) (i:Int),vs=[.ref e,.int i]∧H e=some (excO e C)∧i.natAbs.log2<1000∧∀ dx,H dx=none→dx≠e→Q .non (upd (upd H dx (.xd [("place",.int i)])) e (excH e C dx))
def spIniS (C:Addr):Sp:=fun vs H Q _=>∃ (e:Addr) (x:Str),vs=[.ref e,.str x]∧H e=some (excO e C)∧(reprText x).length≤1000∧∀ dx,H dx=none→dx≠e→Q .non (upd (upd H dx (.xd [("name",.str x)])) e (excH e C dx))
structure XI (K:PySem.W.Frag)(C M:Addr)(f qual:Str)(st:Stmt)(ps:List Str):Prop where
  mkr:MakerX K C qual st ps
  fd:XFld K C M
  nf:PySem.W.findIn K (.ref C) f=some none
  hd:PySem.W.hasDictIn K C=true
theorem iniX {K:PySem.W.Frag}{e C M f:Addr}{v:V}{H:Hp}{Q:VK}(he:H e=some (excO e C))(x:XMk K C M f)(q:Q .non H):rIniX K [.ref e,v] H Q:=⟨e,C,M,f,v,rfl,he,x,q⟩
section
variable {P:Program}{w:World}{K:PySem.W.Frag}{mg:Str→Option Value}{base:Heap}{C_MarksError C:Addr}
theorem ok_BadTape (g_MarksError:mg "MarksError"=some (.ref C_MarksError))(ix_MarksError:XIni K C_MarksError)(g:mg "BadTape"=some (.ref C))(x:XI K C C_MarksError "place" "BadTape.__init__" s_BadTape___init__ ["self","place"]):MakeX P w K mg base "BadTape" C ["self","place"] 1 (spIniI C):=by
  obtain ⟨M',f',fd',F',xm,_⟩:=id x.mkr
  refine MakeX.of g x.mkr sc_BadTape___init__ (fun vs H Q E h=>?_) (fun f cdv A outer s H vs Q E hr h=>?_)
  · obtain ⟨e,i,rfl,_⟩:=h
    rfl
  obtain ⟨e,i,rfl,he,hi,q⟩:=h
  refine ⟨_,(pss_cons (ps_expr (pe_iniX (call_iniX K) rfl g_MarksError ix_MarksError.sp ix_MarksError.rd ix_MarksError.fc rfl (pa_cons (pv 0) (pa_cons (pe_fstrI (pv 1)) pa_nil))))
      (pss_one (ps_fldX K (pv 0) (pv 1)))),?_⟩
  walk_at "vc"
  exact ⟨hi,fun z=>iniX he xm ⟨_,he,_,x.fd,x.nf,q⟩⟩
theorem ok_BadText (g_MarksError:mg "MarksError"=some (.ref C_MarksError))(ix_MarksError:XIni K C_MarksError)(g:mg "BadText"=some (.ref C))(x:XI K C C_MarksError "place" "BadText.__init__" s_BadText___init__ ["self","place"]):MakeX P w K mg base "BadText" C ["self","place"] 1 (spIniI C):=by
  obtain ⟨M',f',fd',F',xm,_⟩:=id x.mkr
  refine MakeX.of g x.mkr sc_BadText___init__ (fun vs H Q E h=>?_) (fun f cdv A outer s H vs Q E hr h=>?_)
  · obtain ⟨e,i,rfl,_⟩:=h
    rfl
  obtain ⟨e,i,rfl,he,hi,q⟩:=h
  refine ⟨_,(pss_cons (ps_expr (pe_iniX (call_iniX K) rfl g_MarksError ix_MarksError.sp ix_MarksError.rd ix_MarksError.fc rfl (pa_cons (pv 0) (pa_cons (pe_fstrI (pv 1)) pa_nil))))
      (pss_one (ps_fldX K (pv 0) (pv 1)))),?_⟩
  walk_at "vc"
  exact ⟨hi,fun z=>iniX he xm ⟨_,he,_,x.fd,x.nf,q⟩⟩
theorem ok_NoColumn (g_MarksError:mg "MarksError"=some (.ref C_MarksError))(ix_MarksError:XIni K C_MarksError)(g:mg "NoColumn"=some (.ref C))(x:XI K C C_MarksError "name" "NoColumn.__init__" s_NoColumn___init__ ["self","name"]):MakeX P w K mg base "NoColumn" C ["self","name"] 1 (spIniS C):=by
  obtain ⟨M',f',fd',F',xm,_⟩:=id x.mkr
  refine MakeX.of g x.mkr sc_NoColumn___init__ (fun vs H Q E h=>?_) (fun f cdv A outer s H vs Q E hr h=>?_)
  · obtain ⟨e,i,rfl,_⟩:=h
    rfl
  obtain ⟨e,i,rfl,he,hi,q⟩:=h
  refine ⟨_,(pss_cons (ps_expr (pe_iniX (call_iniX K) rfl g_MarksError ix_MarksError.sp ix_MarksError.rd ix_MarksError.fc rfl (pa_cons (pv 0) (pa_cons (pe_fstrR (pv 1)) pa_nil))))
      (pss_one (ps_fldX K (pv 0) (pv 1)))),?_⟩
  walk_at "vc"
  exact ⟨hi,fun z=>iniX he xm ⟨_,he,_,x.fd,x.nf,q⟩⟩
end
structure FX (K:PySem.W.Frag)(c:Nat→Addr)(M:Addr):Prop where
  i:∀ j,j<10→EX.XIsi K (c j)
  m:∀ j,j<10→PySem.W.kitOne K (.ref (c j)) (.ref M)=some true
  v:∀ j,j<10→PySem.W.kitOne K (.ref (c j)) (.type "ValueError")=some true
  k:∀ i,i<10→∀ j,j<10→PySem.W.kitOne K (.ref (c i)) (.ref (c j))=some (decide (j=i))
structure NX (mg:Str→Option Value)(c:Nat→Addr)(M:Addr):Prop where
  n0:mg "NoNumber"=some (.ref (c 0))
  n1:mg "NoPlace"=some (.ref (c 1))
  n2:mg "BadTape"=some (.ref (c 2))
  n3:mg "BadText"=some (.ref (c 3))
  n4:mg "BadValue"=some (.ref (c 4))
  n5:mg "BadColumn"=some (.ref (c 5))
  n6:mg "NoColumn"=some (.ref (c 6))
  n7:mg "NoRow"=some (.ref (c 7))
  n8:mg "RowThere"=some (.ref (c 8))
  n9:mg "NoLine"=some (.ref (c 9))
  m:mg "MarksError"=some (.ref M)
def flg (i:Nat):List Bool:=(List.range 10).map fun j=>decide (j=i)
def spFlags (c:Nat→Addr):Sp:=fun vs H Q _=>∃ (e:Addr) (i:Nat),vs=[.ref e]∧i<10∧ExAt H e (c i)∧∀ p H',Same H H'→H' p=some (.lst ((flg i).map V.bl))→Q (.ref p) H'
theorem isiE {K:PySem.W.Frag}{H:Hp}{e C:Addr}{y:V}{c:Value}{b:Bool}{Q:VK}(hy:vOf y=some c)(hx:ExAt H e C)(Z:EX.XIsi K C)(hb:PySem.W.kitOne K (.ref C) c=some b)(q:Q (.bl b) H):rIsiE K [.ref e,y] H Q:=⟨e,C,y,c,b,rfl,hy,hx,Z,hb,q⟩
theorem exS {H H':Hp}{e C:Addr}(s:Same H H')(h:ExAt H e C):ExAt H' e C:=h.elim (fun h=>.inl (s _ _ h)) fun ⟨d,h⟩=>.inr ⟨d,s _ _ h⟩
section
variable {P:Program}{w:World}{K:PySem.W.Frag}{mg:Str→Option Value}{base:Heap}{c:Nat→Addr}{M:Addr}
theorem ok_flags (B:Blt mg)(fx:FX K c M)(nx:NX mg c M)(d:DefAt K mg "_law_flags" s_l_flags ["_law_e"]):FnAt P w K mg base "_law_flags" ["_law_e"] 1 (spFlags c):=by
  obtain ⟨g_NoNumber,g_NoPlace,g_BadTape,g_BadText,g_BadValue,g_BadColumn,g_NoColumn,g_NoRow,g_RowThere,g_NoLine,g_MarksError⟩:=nx
  refine FnAt.of d sc_l_flags (fun vs H Q E h=>?_) (fun f cdv A outer s H vs Q E hr h=>?_)
  · obtain ⟨e,i,rfl,_⟩:=h
    rfl
  obtain ⟨e,i,rfl,hi,hx,q⟩:=h
  refine ⟨_,(pss_cons (ps_set (i:=1) sc_l_flags.nd rfl (by walk_at "l") (pe_lst (pa_cons (pe_callB (call_isiE K) rfl B.isi boot_isi (pa_cons (pv 0) (pa_cons (pe_glob (v:=.ref _) rfl g_NoNumber rfl) pa_nil))) (pa_cons (pe_callB (call_isiE K) rfl B.isi boot_isi (pa_cons (pv 0) (pa_cons (pe_glob (v:=.ref _) rfl g_NoPlace rfl) pa_nil))) (pa_cons (pe_callB (call_isiE K) rfl B.isi boot_isi (pa_cons (pv 0) (pa_cons (pe_glob (v:=.ref _) rfl g_BadTape rfl) pa_nil))) (pa_cons (pe_callB (call_isiE K) rfl B.isi boot_isi (pa_cons (pv 0) (pa_cons (pe_glob (v:=.ref _) rfl g_BadText rfl) pa_nil))) pa_nil))))))
      (pss_cons (ps_set (i:=1) sc_l_flags.nd rfl (by walk_at "l") (pe_op op_cat (pv 1) (pe_lst (pa_cons (pe_callB (call_isiE K) rfl B.isi boot_isi (pa_cons (pv 0) (pa_cons (pe_glob (v:=.ref _) rfl g_BadValue rfl) pa_nil))) (pa_cons (pe_callB (call_isiE K) rfl B.isi boot_isi (pa_cons (pv 0) (pa_cons (pe_glob (v:=.ref _) rfl g_BadColumn rfl) pa_nil))) (pa_cons (pe_callB (call_isiE K) rfl B.isi boot_isi (pa_cons (pv 0) (pa_cons (pe_glob (v:=.ref _) rfl g_NoColumn rfl) pa_nil))) pa_nil))))))
      (pss_one (ps_ret (pe_op op_cat (pv 1) (pe_lst (pa_cons (pe_callB (call_isiE K) rfl B.isi boot_isi (pa_cons (pv 0) (pa_cons (pe_glob (v:=.ref _) rfl g_NoRow rfl) pa_nil))) (pa_cons (pe_callB (call_isiE K) rfl B.isi boot_isi (pa_cons (pv 0) (pa_cons (pe_glob (v:=.ref _) rfl g_RowThere rfl) pa_nil))) (pa_cons (pe_callB (call_isiE K) rfl B.isi boot_isi (pa_cons (pv 0) (pa_cons (pe_glob (v:=.ref _) rfl g_NoLine rfl) pa_nil))) pa_nil))))))))),?_⟩
  walk_at "vc"
  refine isiE rfl hx (fx.i i hi) (fx.k i hi 0 (by decide)) ?_
  refine isiE rfl hx (fx.i i hi) (fx.k i hi 1 (by decide)) ?_
  refine isiE rfl hx (fx.i i hi) (fx.k i hi 2 (by decide)) ?_
  refine isiE rfl hx (fx.i i hi) (fx.k i hi 3 (by decide)) ?_
  walk_at "vc"
  refine ⟨by decide,fun p np=>?_⟩
  obtain ⟨H1,e1⟩:∃ H1,H1=upd H p (.lst [V.bl (decide (0=i)),V.bl (decide (1=i)),V.bl (decide (2=i)),V.bl (decide (3=i))]):=⟨_,rfl⟩
  have hp:H1 p=some (.lst [V.bl (decide (0=i)),V.bl (decide (1=i)),V.bl (decide (2=i)),V.bl (decide (3=i))]):=by rw [e1];exact upd_same
  have s1:Same H H1:=by rw [e1];exact Same.new np
  rw [← e1]
  clear e1
  have hx1:=exS s1 hx
  refine isiE rfl hx1 (fx.i i hi) (fx.k i hi 4 (by decide)) ?_
  refine isiE rfl hx1 (fx.i i hi) (fx.k i hi 5 (by decide)) ?_
  refine isiE rfl hx1 (fx.i i hi) (fx.k i hi 6 (by decide)) ?_
  refine ⟨by decide,fun p2 np2=>?_⟩
  refine ⟨_,by rw [upd_ne (ne_of_none hp np2)];exact hp,_,upd_same,(by show 7≤sizeLine;decide),fun p3 np3=>?_⟩
  have s2:Same H1 _:=(Same.new (o:=.lst [V.bl (decide (4=i)),V.bl (decide (5=i)),V.bl (decide (6=i))]) np2).trans (Same.new (o:=.lst ([V.bl (decide (0=i)),V.bl (decide (1=i)),V.bl (decide (2=i)),V.bl (decide (3=i))]++[V.bl (decide (4=i)),V.bl (decide (5=i)),V.bl (decide (6=i))])) np3)
  have hp3:upd (upd H1 p2 (.lst [V.bl (decide (4=i)),V.bl (decide (5=i)),V.bl (decide (6=i))])) p3 (.lst ([V.bl (decide (0=i)),V.bl (decide (1=i)),V.bl (decide (2=i)),V.bl (decide (3=i))]++[V.bl (decide (4=i)),V.bl (decide (5=i)),V.bl (decide (6=i))])) p3=_:=upd_same
  generalize upd (upd H1 p2 (.lst [V.bl (decide (4=i)),V.bl (decide (5=i)),V.bl (decide (6=i))])) p3 (.lst ([V.bl (decide (0=i)),V.bl (decide (1=i)),V.bl (decide (2=i)),V.bl (decide (3=i))]++[V.bl (decide (4=i)),V.bl (decide (5=i)),V.bl (decide (6=i))]))=H2 at s2 hp3 ⊢
  have hx2:=exS s2 hx1
  refine isiE rfl hx2 (fx.i i hi) (fx.k i hi 7 (by decide)) ?_
  refine isiE rfl hx2 (fx.i i hi) (fx.k i hi 8 (by decide)) ?_
  refine isiE rfl hx2 (fx.i i hi) (fx.k i hi 9 (by decide)) ?_
  refine ⟨by decide,fun p4 np4=>?_⟩
  refine ⟨_,by rw [upd_ne (ne_of_none hp3 np4)];exact hp3,_,upd_same,(by show 10≤sizeLine;decide),fun p5 np5=>?_⟩
  exact q p5 _ (s1.trans (s2.trans ((Same.new np4).trans (Same.new np5)))) upd_same
end
theorem atI_in {xs:List Nat}{i:Int}(h0:0≤i)(h1:i<(xs.length:Int)):∃ c∈xs,atI xs i=some c:=by
  obtain ⟨n,rfl⟩:=Int.eq_ofNat_of_zero_le h0
  have h:n<xs.length:=by omega
  exact ⟨xs[n],List.getElem_mem h,atI_nat (List.getElem?_eq_getElem h)⟩
def lt9:Str:=Str.ofString "abcdefghijklmnopqrstuvwxyzABCDEFGHIJKLMNOPQRSTUVWXYZ0123456789 _-.,:/+*=<>()"
theorem lt9_len:lt9.length=76:=by decide +kernel
theorem lt9_ok:lt9.cps.toList.length=76∧∀ c∈lt9.cps.toList,c<16^8:=by decide +kernel
def spName:Sp:=fun vs H Q _=>∃ i:Int,vs=[.int i]∧∀ (z:Str) (H':Hp),(reprText z).length≤1000→Same H H'→Q (.str z) H'
theorem join_ok {ls:List Nat}(hl:ls.length≤13)(hc:∀ c∈ls,c<16^8):(reprText (Txt.join (Str.ofString "") (ls.map fun k=>(⟨#[k]⟩:Str)))).length≤1000:=by
  have e:Txt.join (Str.ofString "") (ls.map fun k=>(⟨#[k]⟩:Str))=⟨ls.toArray⟩:=(eq_of_beq (join_closes rfl)).trans (join_ones ls)
  rw [e]
  have h:=StrLaws.reprText_len ⟨ls.toArray⟩ hc
  have l:(⟨ls.toArray⟩:Str).length=ls.length:=rfl
  omega
theorem sum1:∀ ls:List Nat,((ls.map fun k=>(⟨#[k]⟩:Str)).map (·.length)).sum=ls.length
  | []=>rfl
  | k::r=>by
    have:=sum1 r
    have h1:(⟨#[k]⟩:Str).length=1:=rfl
    simp only [List.map_cons,List.sum_cons,List.length_cons] at this ⊢
    omega
section
variable {P:Program}{w:World}{K:PySem.W.Frag}{mg:Str→Option Value}{base:Heap}
theorem ok_name (B:Blt mg) (h_l_mixed:FnAt P w K mg base "_law_mixed" ["_law_cell","_law_k"] 1 spMixed) (d:DefAt K mg "_law_name" s_l_name ["_law_cell"]):FnAt P w K mg base "_law_name" ["_law_cell"] 2 spName:=by
  refine FnAt.of d sc_l_name (fun vs H Q E h=>?_) (fun f cdv A outer s H vs Q E hr h=>?_)
  · obtain ⟨i,rfl,_⟩:=h
    rfl
  obtain ⟨i,rfl,q⟩:=h
  refine ⟨_,(pss_cons (ps_set (i:=1) sc_l_name.nd rfl (by walk_at "l") pe_str)
      (pss_cons (ps_setcomp (i:=2) ["_law_k"] [1,0] sc_l_name.nd rfl (by walk_at "l") rfl (pi_range1 rfl B.range (pa_cons (pe_op op_mod (pv 0) pe_int) pa_nil)) (fun _ _ _ _ _=>pg_name (i:=0) (by show List.Nodup (["_law_k","_law_letters","_law_cell"]:List Str);decide +kernel) rfl (Or.inl rfl)) (fun _ _ _ _ _=>pts_nil) (fun _ _ _ _ _=>(pe_ix ix_str (pv 1) (pe_op op_mod (pe_callF h_l_mixed (hr.mono (by decide)) rfl (pa_cons (pv 2) (pa_cons (pv 0) pa_nil))) (pe_callB call_len_str rfl B.len PySem.boot_len (pa_cons (pv 1) pa_nil))) (fun _ _=>rfl))) ⟨⟨_,rfl,rfl,.inl rfl⟩,⟨⟨_,rfl,rfl,.inl rfl⟩,trivial⟩⟩ gOwn_name)
      (pss_one (ps_ret (pe_bmK K PySem.F.plainAttrs_str PySem.F.slot_str_join PySem.F.type_str_join (mt_join K) pe_str (pa_cons (pv 2) pa_nil)))))),?_⟩
  walk_at "vc"
  obtain ⟨n,hn,ln⟩:∃ n:Nat,i%13=n∧n<13:=⟨(i%13).toNat,by omega,by omega⟩
  rw [hn]
  refine ⟨by omega,by omega,?_⟩
  rw [Int.toNat_natCast]
  have hat:∀ j:Nat,∃ k,k<16^8∧atI lt9.cps.toList (mixI i j%(lt9.length:Int))=some k:=fun j=>by
    obtain ⟨k,hm,hk⟩:=atI_in (xs:=lt9.cps.toList) (i:=mixI i j%(lt9.length:Int)) (by rw [lt9_len];exact Int.emod_nonneg _ (by decide)) (by rw [lt9_ok.1,lt9_len];exact Int.emod_lt_of_pos _ (by decide))
    exact ⟨k,lt9_ok.2 k hm,hk⟩
  obtain ⟨g,hg⟩:=Classical.axiomOfChoice hat
  refine compR (fun _=>true) (fun j=>.str ⟨#[g j]⟩) (by omega) (fun _ _ _ _ _ h=>h) (fun j H2 R hj _ sm r=>?_) fun D hD=>?_
  · walk_at "vc"
    exact ⟨i,j,rfl,by decide +kernel,_,rfl,by decide +kernel,by decide +kernel,_,(hg j).2,r⟩
  · walk_at "vc"
    have e:List.map (fun j=>V.str ⟨#[g j]⟩) (List.filter (fun _=>true) (List.range n))=(((List.range n).map g).map fun k=>(⟨#[k]⟩:Str)).map V.str:=by
      rw [List.filter_eq_self.mpr (fun _ _=>rfl),List.map_map,List.map_map]
      rfl
    rw [e]
    refine ⟨_,SqL.of upd_same,?_,?_⟩
    · have z:(Str.ofString "").length=0:=by decide +kernel
      rw [sum1,z,Nat.mul_zero,List.length_map,List.length_range]
      omega
    · refine q _ _ (join_ok ?_ ?_) (Same.new hD)
      · rw [List.length_map,List.length_range]
        omega
      · intro c hc
        obtain ⟨j,_,rfl⟩:=List.mem_map.mp hc
        exact (hg j).1
end
theorem newX {C:Addr}{v:V}{H:Hp}{Q:VK}(h:∀ e H',Same H H'→ExAt H' e C→Q (.ref e) H'):rXMk C [v] H Q:=⟨(by show 1≤sizeLine;decide),fun e ne=>h e _ (Same.new ne) (.inl upd_same)⟩
theorem same3 {H:Hp}{x dx C:Addr}{o o1 o2:HO}(nx:H x=none)(nd:upd H x o dx=none)(ne:dx≠x):Same H (upd (upd (upd H x o) dx o1) x o2):=fun b u e=>by
  have nd':H dx=none:=by rw [upd_ne ne] at nd;exact nd
  rw [upd_ne (ne_of_none e nx),upd_ne (ne_of_none e nd'),upd_ne (ne_of_none e nx)]
  exact e
theorem newI {C:Addr}{i:Int}{H:Hp}{Q:VK}{E:XK}(hi:i.natAbs.log2<1000)(h:∀ e dx H',Same H H'→H' e=some (excH e C dx)→H' dx=some (.xd [("place",.int i)])→Q (.ref e) H'):mkX C (spIniI C) E [.int i] H Q :=
  ⟨(by show 1≤1000;decide),fun x nx=>⟨x,i,rfl,upd_same,hi,fun dx nd ne=>⟨rfl,h x dx _ (same3 (C:=C) nx nd ne) upd_same (by rw [upd_ne ne];exact upd_same)⟩⟩⟩
theorem newS {C:Addr}{z:Str}{H:Hp}{Q:VK}{E:XK}(hi:(reprText z).length≤1000)(h:∀ e dx H',Same H H'→H' e=some (excH e C dx)→H' dx=some (.xd [("name",.str z)])→Q (.ref e) H'):mkX C (spIniS C) E [.str z] H Q :=
  ⟨(by show 1≤1000;decide),fun x nx=>⟨x,z,rfl,upd_same,hi,fun dx nd ne=>⟨rfl,h x dx _ (same3 (C:=C) nx nd ne) upd_same (by rw [upd_ne ne];exact upd_same)⟩⟩⟩
theorem getX {K:PySem.W.Frag}{e C dx:Addr}{f:Str}{v:V}{H:Hp}{Q:VK}(h1:H e=some (excH e C dx))(h2:H dx=some (.xd [(f,v)]))(Z:EX.XIsi K C)(hd:PySem.W.hasDictIn K C=true)(nf:PySem.W.findIn K (.ref C) f=some none)(q:Q v H):fX K f (.ref e) H Q :=
  ⟨e,C,dx,_,v,rfl,h1,h2,by rw [List.lookup_cons,beq_self_eq_true],Z,hd,nf,q⟩
theorem flg_ok:∀ i,i<10→SeqAt.shaped (.list ((flg i).map .bool))=true∧SeqAt.noMix (.list ((flg i).map .bool)) (.list ((flg i).map .bool))=true∧PySem.Spec.same (.list ((flg i).map .bool)) (.list ((flg i).map .bool))=true:=by decide +kernel
theorem rds_bools {K:PySem.W.Frag}{H:Hp}:∀ ns:List Bool,RdDs K H (ns.map V.bl) (ns.map PyData.bool)
  | []=>.nil
  | n::r=>.cons (.bl n) (rds_bools r)
theorem neFlg {K:PySem.W.Frag}{H:Hp}{Q:VK}{a b:Addr}{i:Nat}(hi:i<10)(h1:SqL K H a ((flg i).map V.bl))(h2:SqL K H b ((flg i).map V.bl))(q:Q (.bl false) H):rNeD K (.ref a) (.ref b) H Q :=
  ⟨_,_,.lst h1 (rds_bools _),.lst h2 (rds_bools _),(flg_ok i hi).1,(flg_ok i hi).1,(flg_ok i hi).2.1,by rw [(flg_ok i hi).2.2];exact q⟩
theorem log30 {n:Int}(h0:0≤n)(h1:n<10^30):n.natAbs.log2<1000:=by
  by_cases hz:n.natAbs=0
  · rw [hz]
    decide
  · rw [Nat.log2_lt hz]
    have:n.natAbs<10^30:=by omega
    exact Nat.lt_of_lt_of_le this (Nat.le_trans (show 10^30≤2^100 by decide) (Nat.pow_le_pow_right (by decide) (by decide)))
structure AI (a:Addr)(H:Hp)(σ:L2.St)(H':Hp):Prop where
  ex:∃ pl ot:Int,σ=[some (.ref a),some (.int pl),some (.int ot),none,none,none,none]∧pl.natAbs.log2<1000∧ot.natAbs.log2<1000
  hp:H'=H
structure Ten (c:Nat→Addr)(p:Addr)(xs:List V)(pl ot:Int)(nm:Str)(H:Hp):Prop where
  l:H p=some (.lst xs)
  x:∀ i,i<10→∃ e,xs[i]?=some (.ref e)∧ExAt H e (c i)
  x2:∃ e d,xs[2]?=some (.ref e)∧H e=some (excH e (c 2) d)∧H d=some (.xd [("place",.int pl)])
  x3:∃ e d,xs[3]?=some (.ref e)∧H e=some (excH e (c 3) d)∧H d=some (.xd [("place",.int ot)])
  x6:∃ e d,xs[6]?=some (.ref e)∧H e=some (excH e (c 6) d)∧H d=some (.xd [("name",.str nm)])
theorem Ten.same {c:Nat→Addr}{p:Addr}{xs:List V}{pl ot:Int}{nm:Str}{H H':Hp}(h:Ten c p xs pl ot nm H)(s:Same H H'):Ten c p xs pl ot nm H' :=
  ⟨s _ _ h.l,fun i hi=>(h.x i hi).imp fun e z=>⟨z.1,exS s z.2⟩,h.x2.imp fun e z=>z.imp fun d y=>⟨y.1,s _ _ y.2.1,s _ _ y.2.2⟩,h.x3.imp fun e z=>z.imp fun d y=>⟨y.1,s _ _ y.2.1,s _ _ y.2.2⟩,h.x6.imp fun e z=>z.imp fun d y=>⟨y.1,s _ _ y.2.1,s _ _ y.2.2⟩⟩
structure BI (c:Nat→Addr)(a:Addr)(σ:L2.St)(H':Hp):Prop where
  ex:∃ (p:Addr) (xs:List V) (pl ot:Int) (nm:Str) (v:Option V),σ=[some (.ref a),some (.int pl),some (.int ot),some (.str nm),some (.ref p),v,none]∧ot.natAbs.log2<1000∧Ten c p xs pl ot nm H'
theorem lt10 {Pr:Nat→Prop}(h0:Pr 0)(h1:Pr 1)(h2:Pr 2)(h3:Pr 3)(h4:Pr 4)(h5:Pr 5)(h6:Pr 6)(h7:Pr 7)(h8:Pr 8)(h9:Pr 9):∀ i,i<10→Pr i
  | 0,_=>h0 | 1,_=>h1 | 2,_=>h2 | 3,_=>h3 | 4,_=>h4 | 5,_=>h5 | 6,_=>h6 | 7,_=>h7 | 8,_=>h8 | 9,_=>h9
structure PX (K:PySem.W.Frag)(c:Nat→Addr)(M:Addr):Prop where
  x0:XCls K (c 0)
  x1:XCls K (c 1)
  x4:XCls K (c 4)
  x5:XCls K (c 5)
  x7:XCls K (c 7)
  x8:XCls K (c 8)
  x9:XCls K (c 9)
  t:XI K (c 2) M "place" "BadTape.__init__" s_BadTape___init__ ["self","place"]
  q:XI K (c 3) M "place" "BadText.__init__" s_BadText___init__ ["self","place"]
  n:XI K (c 6) M "name" "NoColumn.__init__" s_NoColumn___init__ ["self","name"]
  ini:XIni K M
section
variable {P:Program}{w:World}{K:PySem.W.Frag}{mg:Str→Option Value}{base:Heap}{c:Nat→Addr}{M:Addr}
theorem ok_law (B:Blt mg)(fx:FX K c M)(nx:NX mg c M)(px:PX K c M)(h_l_mixed:FnAt P w K mg base "_law_mixed" ["_law_cell","_law_k"] 1 spMixed)(h_l_cell_at:FnAt P w K mg base "_law_cell_at" ["_law_script","_law_k"] 1 (spCell K))(h_l_whole:FnAt P w K mg base "_law_whole" ["_law_found"] 1 spWhole)(h_l_name:FnAt P w K mg base "_law_name" ["_law_cell"] 2 spName)(h_l_flags:FnAt P w K mg base "_law_flags" ["_law_e"] 1 (spFlags c))
    (h_BadTape:MakeX P w K mg base "BadTape" (c 2) ["self","place"] 1 (spIniI (c 2))) (h_BadText:MakeX P w K mg base "BadText" (c 3) ["self","place"] 1 (spIniI (c 3))) (h_NoColumn:MakeX P w K mg base "NoColumn" (c 6) ["self","name"] 1 (spIniS (c 6)))
    {f:Addr} {fd:FuncData} (F:Fun K "law" "law" s_law f fd):FnOk P w K mg base CX0 6 f fd ["_law_script"] (spLaw K):=by
  obtain ⟨g_NoNumber,g_NoPlace,g_BadTape,g_BadText,g_BadValue,g_BadColumn,g_NoColumn,g_NoRow,g_RowThere,g_NoLine,g_MarksError⟩:=nx
  obtain ⟨xc_NoNumber,xc_NoPlace,xc_BadValue,xc_BadColumn,xc_NoRow,xc_RowThere,xc_NoLine,xt,xq,xn,xi⟩:=px
  refine F.ok sc_law (fun vs H Q E h=>?_) (fun cdv A outer s H vs Q E hr h=>?_)
  · obtain ⟨a,ns,rfl,_⟩:=h
    rfl
  obtain ⟨a,ns,rfl,hS,h63,q⟩:=h
  refine ⟨_,(pss_cons (ps_set (i:=1) sc_law.nd rfl (by walk_at "l") (pe_op op_mod (pe_callF h_l_mixed (hr.mono (by decide)) rfl (pa_cons (pe_callF h_l_cell_at (hr.mono (by decide)) rfl (pa_cons (pv 0) (pa_cons pe_int pa_nil))) (pa_cons pe_int pa_nil))) pe_int))
      (pss_cons (ps_set (i:=2) sc_law.nd rfl (by walk_at "l") (pe_op op_mod (pe_callF h_l_mixed (hr.mono (by decide)) rfl (pa_cons (pe_callF h_l_cell_at (hr.mono (by decide)) rfl (pa_cons (pv 0) (pa_cons pe_int pa_nil))) (pa_cons pe_int pa_nil))) pe_int))
      (pss_cut (ps_if (pt_cmpR op_eq (pe_op op_mod (pv 2) pe_int) pe_int (nomark _)) (pss_one (ps_set (i:=2) sc_law.nd rfl (by walk_at "l") (pe_op op_mod (pe_op op_mul (pe_callF h_l_cell_at (hr.mono (by decide)) rfl (pa_cons (pv 0) (pa_cons pe_int pa_nil))) pe_int) (pe_op op_pow pe_int pe_int)))) pss_nil)
      (pss_cons (ps_set (i:=3) sc_law.nd rfl (by walk_at "l") (pe_callF h_l_name (hr.mono (by decide)) rfl (pa_cons (pe_callF h_l_cell_at (hr.mono (by decide)) rfl (pa_cons (pv 0) (pa_cons pe_int pa_nil))) pa_nil)))
      (pss_cons (ps_set (i:=4) sc_law.nd rfl (by walk_at "l") (pe_lst (pa_cons (pe_excM xc_NoNumber g_NoNumber rfl (pa_cons pe_str pa_nil)) (pa_cons (pe_excM xc_NoPlace g_NoPlace rfl (pa_cons pe_str pa_nil)) (pa_cons (pe_makeX h_BadTape (hr.mono (by decide)) rfl (pa_cons (pv 1) pa_nil)) (pa_cons (pe_makeX h_BadText (hr.mono (by decide)) rfl (pa_cons (pv 2) pa_nil)) (pa_cons (pe_excM xc_BadValue g_BadValue rfl (pa_cons pe_str pa_nil)) (pa_cons (pe_excM xc_BadColumn g_BadColumn rfl (pa_cons pe_str pa_nil)) pa_nil))))))))
      (pss_cut (ps_set (i:=4) sc_law.nd rfl (by walk_at "l") (pe_op op_cat (pv 4) (pe_lst (pa_cons (pe_makeX h_NoColumn (hr.mono (by decide)) rfl (pa_cons (pv 3) pa_nil)) (pa_cons (pe_excM xc_NoRow g_NoRow rfl (pa_cons pe_str pa_nil)) (pa_cons (pe_excM xc_RowThere g_RowThere rfl (pa_cons pe_str pa_nil)) (pa_cons (pe_excM xc_NoLine g_NoLine rfl (pa_cons pe_str pa_nil)) pa_nil)))))))
      (pss_cut (ps_for PassesOwn.never rfl (pi_range1 rfl B.range (pa_cons pe_int pa_nil)) (pg_name (i:=5) sc_law.nd rfl (by walk_at "l")) (pss_cons (ps_if (PW.pt (pw_or (pt_not (pt_val (pe_callB (call_isiE K) rfl B.isi boot_isi (pa_cons (pe_ix (ix_listK K) (pv 4) (pv 5) (fun _ _=>rfl)) (pa_cons (pe_glob (v:=.ref _) rfl g_MarksError rfl) pa_nil))))) (pw_or1 (pt_not (pt_val (pe_callB (call_isiE K) rfl B.isi boot_isi (pa_cons (pe_ix (ix_listK K) (pv 4) (pv 5) (fun _ _=>rfl)) (pa_cons (pe_bltn (v:=.ty "ValueError") rfl B.ValueError boot_ValueError rfl) pa_nil)))))))) (pss_one (ps_ret pe_bl)) pss_nil)
      (pss_one (ps_if (pt_cmpR (op_neD K (hu64 hr)) (pe_callF h_l_flags (hr.mono (by decide)) rfl (pa_cons (pe_ix (ix_listK K) (pv 4) (pv 5) (fun _ _=>rfl)) pa_nil)) (pe_comp ["_law_j"] [5] rfl (pi_range1 rfl B.range (pa_cons pe_int pa_nil)) (fun _ _ _ _ _=>pg_name (i:=0) (by show List.Nodup (["_law_j","_law_k"]:List Str);decide +kernel) rfl (Or.inl rfl)) (fun _ _ _ _ _=>pts_nil) (fun _ _ _ _ _=>(pe_cmpR op_eq (pv 0) (pv 1) (nomark _))) ⟨⟨_,rfl,rfl,.inl rfl⟩,trivial⟩ gOwn_name) (nomark _)) (pss_one (ps_ret pe_bl)) pss_nil))))
      (pss_cons (ps_if (PW.pt (pw_or (pt_not (pt_val (pe_callF h_l_whole (hr.mono (by decide)) rfl (pa_cons (pe_fldX K (pe_ix (ix_listK K) (pv 4) pe_int (fun _ _=>rfl))) pa_nil)))) (pw_or (pt_cmpR op_ne (pe_fldX K (pe_ix (ix_listK K) (pv 4) pe_int (fun _ _=>rfl))) (pv 1) (nomark _)) (pw_or1 (pt_cmpR op_ne (pe_fldX K (pe_ix (ix_listK K) (pv 4) pe_int (fun _ _=>rfl))) (pv 2) (nomark _)))))) (pss_one (ps_ret pe_bl)) pss_nil)
      (pss_cons (ps_set (i:=6) sc_law.nd rfl (by walk_at "l") (pe_makeX h_BadTape (hr.mono (by decide)) rfl (pa_cons (pv 2) pa_nil)))
      (pss_one (ps_ret (pe_and (pe_cmpR op_eq (pe_fldX K (pe_ix (ix_listK K) (pv 4) pe_int (fun _ _=>rfl))) (pv 3) (nomark _)) (pe_and (pe_cmpR op_eq (pe_fldX K (pv 6)) (pv 2) (nomark _)) (pe_one (pe_cmpR op_eq (pe_fldX K (pe_ix (ix_listK K) (pv 4) pe_int (fun _ _=>rfl))) (pv 1) (nomark _)))))))))))))))),?_⟩
  walk_at "vc"
  refine ⟨a,ns,0,rfl,hS,_,300,rfl,_,rfl,a,ns,1,rfl,hS,_,301,rfl,_,rfl,AI a H,?_,?_⟩
  · walk_at "vc"
    have l1:=log30 (n:=mixI (ns.getD 0 0) 300%80001) (Int.emod_nonneg _ (by decide)) (Int.lt_of_lt_of_le (Int.emod_lt_of_pos _ (by decide)) (by decide))
    have l2:=log30 (n:=mixI (ns.getD 1 0) 301%80001) (Int.emod_nonneg _ (by decide)) (Int.lt_of_lt_of_le (Int.emod_lt_of_pos _ (by decide)) (by decide))
    split
    · refine ⟨a,ns,1,rfl,hS,_,rfl,?_⟩
      refine ⟨?_,⟨_,_,rfl,l1,log30 (Int.emod_nonneg _ (by decide)) (Int.emod_lt_of_pos _ (by decide))⟩,rfl⟩
      decide
    · exact ⟨⟨_,_,rfl,l1,l2⟩,rfl⟩
  rintro σ H1 ⟨⟨pl,ot,rfl,lp,lo⟩,rfl⟩
  walk_at "vc"
  refine ⟨a,ns,2,rfl,hS,_,rfl,fun nm H2 hnm s2=>?_⟩
  walk_at "vc"
  refine newX fun e0 H3 s3 x0=>newX fun e1 H4 s4 x1=>newI lp fun e2 d2 H5 s5 x2 y2=>newI lo fun e3 d3 H6 s6 x3 y3=>newX fun e4 H7 s7 x4=>newX fun e5 H8 s8 x5=>?_
  walk_at "vc"
  refine ⟨by decide,fun p np=>⟨BI c a,?_,?_⟩⟩
  · have hp:upd H8 p (.lst [.ref e0,.ref e1,.ref e2,.ref e3,.ref e4,.ref e5]) p=some (.lst [.ref e0,.ref e1,.ref e2,.ref e3,.ref e4,.ref e5]):=upd_same
    have s9:Same H8 (upd H8 p (.lst [.ref e0,.ref e1,.ref e2,.ref e3,.ref e4,.ref e5])):=Same.new np
    generalize upd H8 p (.lst [.ref e0,.ref e1,.ref e2,.ref e3,.ref e4,.ref e5])=H9 at hp s9 ⊢
    walk_at "vc"
    refine newS hnm fun e6 d6 Ha sa x6 y6=>newX fun e7 Hb sb x7=>newX fun e8 Hc sc x8=>newX fun e9 Hd sd x9=>?_
    walk_at "vc"
    have hpd:=sd _ _ (sc _ _ (sb _ _ (sa _ _ hp)))
    refine ⟨by decide,fun p1 n1=>⟨_,by rw [upd_ne (ne_of_none hpd n1)];exact hpd,_,upd_same,(by show 10≤sizeLine;decide),fun p2 n2=>⟨p2,[.ref e0,.ref e1,.ref e2,.ref e3,.ref e4,.ref e5]++[.ref e6,.ref e7,.ref e8,.ref e9],pl,ot,nm,none,rfl,lo,?_⟩⟩⟩
    have z9:Same Hd _:=(Same.new n1).trans (Same.new n2 (o:=.lst ([.ref e0,.ref e1,.ref e2,.ref e3,.ref e4,.ref e5]++[.ref e6,.ref e7,.ref e8,.ref e9])))
    have z8:=sd.trans z9
    have z7:=sc.trans z8
    have z6:=sb.trans z7
    have z5:=s9.trans (sa.trans z6)
    have z4:=s8.trans z5
    have z3:=s7.trans z4
    have z2:=s6.trans z3
    have z1:=s5.trans z2
    have z0:=s4.trans z1
    exact ⟨upd_same,lt10 ⟨e0,rfl,exS z0 x0⟩ ⟨e1,rfl,exS z1 x1⟩ ⟨e2,rfl,exS z2 (.inr ⟨d2,x2⟩)⟩ ⟨e3,rfl,exS z3 (.inr ⟨d3,x3⟩)⟩ ⟨e4,rfl,exS z4 x4⟩ ⟨e5,rfl,exS z5 x5⟩ ⟨e6,rfl,exS z6 (.inr ⟨d6,x6⟩)⟩ ⟨e7,rfl,exS z7 x7⟩ ⟨e8,rfl,exS z8 x8⟩ ⟨e9,rfl,exS z9 x9⟩,
      ⟨e2,d2,rfl,z2 _ _ x2,z2 _ _ y2⟩,⟨e3,d3,rfl,z3 _ _ x3,z3 _ _ y3⟩,⟨e6,d6,rfl,z6 _ _ x6,z6 _ _ y6⟩⟩
  clear lp lo s2 s3 s4 s5 s6 s7 s8 x0 x1 x2 y2 x3 y3 x4 x5 np hnm hS
  intro σ H9 hB
  refine ⟨BI c a,?_,?_⟩
  · walk_at "vc"
    refine loopR (fun _=>BI c a) hB ?_ fun _ _ h=>h
    rintro i σ H2 hi ⟨p',xs,pl,ot,nm,v,rfl,lo,T⟩
    walk_at "vc"
    obtain ⟨e,ex,hx⟩:=T.x i hi
    have hS2:SqL K H2 p' xs:=SqL.of T.l
    refine ⟨_,hS2,_,atI_nat ex,isiE rfl hx (fx.i i hi) (fx.m i hi) ⟨_,rfl,?_⟩⟩
    rw [if_neg (by decide)]
    refine ⟨_,hS2,_,atI_nat ex,isiE rfl hx (fx.i i hi) (fx.v i hi) ⟨_,rfl,?_⟩⟩
    rw [if_neg (by decide)]
    refine ⟨_,hS2,_,atI_nat ex,e,i,rfl,hi,hx,fun q1 H3 s3 h1=>?_⟩
    refine compR (fun _=>true) (fun j=>.bl (decide (j=i))) (by decide) (fun _ _ _ _ _ h=>h) (fun j H4 R hj _ sm r=>?_) fun D hD=>?_
    · have e0:decide ((j:Int)=(i:Int))=decide (j=i):=by simp only [Int.natCast_inj]
      walk_at "vc"
      rw [e0]
      exact r
    · have e1:List.map (fun j=>V.bl (decide (j=i))) (List.filter (fun _=>true) (List.range 10))=(flg i).map V.bl:=rfl
      rw [e1]
      refine neFlg hi (SqL.of (Same.new hD _ _ h1)) (SqL.of upd_same) ⟨_,rfl,?_⟩
      rw [if_neg (by decide)]
      exact ⟨p',xs,pl,ot,nm,_,rfl,lo,(T.same s3).same (Same.new hD)⟩
  rintro σ H9 ⟨p',xs,pl,ot,nm,v,rfl,lo,T⟩
  walk_at "vc"
  have hS9:SqL K H9 p' xs:=SqL.of T.l
  obtain ⟨e2,d2,i2,x2,y2⟩:=T.x2
  obtain ⟨e3,d3,i3,x3,y3⟩:=T.x3
  refine ⟨_,hS9,_,atI_nat (j:=2) i2,getX x2 y2 (fx.i 2 (by decide)) xt.hd xt.nf ⟨pl,rfl,_,rfl,?_⟩⟩
  rw [if_neg (by decide)]
  refine ⟨_,hS9,_,atI_nat (j:=2) i2,getX x2 y2 (fx.i 2 (by decide)) xt.hd xt.nf ⟨rfl,?_⟩⟩
  rw [if_pos rfl]
  refine ⟨_,hS9,_,atI_nat (j:=3) i3,getX x3 y3 (fx.i 3 (by decide)) xq.hd xq.nf ⟨rfl,?_⟩⟩
  rw [if_pos rfl]
  refine newI lo fun e7 d7 Ha sa x7 y7=>?_
  have Ta:=T.same sa
  obtain ⟨e2,d2,i2,x2,y2⟩:=Ta.x2
  obtain ⟨e6,d6,i6,x6,y6⟩:=Ta.x6
  refine ⟨_,SqL.of Ta.l,_,atI_nat (j:=6) i6,getX x6 y6 (fx.i 6 (by decide)) xn.hd xn.nf ⟨rfl,?_⟩⟩
  rw [if_pos rfl]
  refine getX x7 y7 (fx.i 2 (by decide)) xt.hd xt.nf ⟨rfl,?_⟩
  rw [if_pos rfl]
  refine ⟨_,SqL.of Ta.l,_,atI_nat (j:=2) i2,getX x2 y2 (fx.i 2 (by decide)) xt.hd xt.nf ?_⟩
  walk_at "vc"
  exact q _
end
def c10 (C0 C1 C2 C3 C4 C5 C6 C7 C8 C9:Addr):Nat→Addr:=fun j=>match j with | 0=>C0 | 1=>C1 | 2=>C2 | 3=>C3 | 4=>C4 | 5=>C5 | 6=>C6 | 7=>C7 | 8=>C8 | _=>C9
section
variable {K:PySem.W.Frag}{C0 C1 C2 C3 C4 C5 C6 C7 C8 C9 M:Addr}
theorem all10 {p:Nat→Addr→Prop}(h0:p 0 C0)(h1:p 1 C1)(h2:p 2 C2)(h3:p 3 C3)(h4:p 4 C4)(h5:p 5 C5)(h6:p 6 C6)(h7:p 7 C7)(h8:p 8 C8)(h9:p 9 C9):∀ j,j<10→p j (c10 C0 C1 C2 C3 C4 C5 C6 C7 C8 C9 j):=lt10 h0 h1 h2 h3 h4 h5 h6 h7 h8 h9
theorem nx_mk {h:Heap}{mg:Str→Option Value}(X:K.In h)(G:h.Ns mainGlobals mg)(a0:PySem.W.nsIn K mainGlobals "NoNumber"=some (some (.ref C0)))(a1:PySem.W.nsIn K mainGlobals "NoPlace"=some (some (.ref C1)))(a2:PySem.W.nsIn K mainGlobals "BadTape"=some (some (.ref C2)))(a3:PySem.W.nsIn K mainGlobals "BadText"=some (some (.ref C3)))(a4:PySem.W.nsIn K mainGlobals "BadValue"=some (some (.ref C4)))(a5:PySem.W.nsIn K mainGlobals "BadColumn"=some (some (.ref C5)))(a6:PySem.W.nsIn K mainGlobals "NoColumn"=some (some (.ref C6)))(a7:PySem.W.nsIn K mainGlobals "NoRow"=some (some (.ref C7)))(a8:PySem.W.nsIn K mainGlobals "RowThere"=some (some (.ref C8)))(a9:PySem.W.nsIn K mainGlobals "NoLine"=some (some (.ref C9)))(aM:PySem.W.nsIn K mainGlobals "MarksError"=some (some (.ref M)))(f:FX K (c10 C0 C1 C2 C3 C4 C5 C6 C7 C8 C9) M)(p:PX K (c10 C0 C1 C2 C3 C4 C5 C6 C7 C8 C9) M):∃ c M,NX mg c M∧FX K c M∧PX K c M :=
  ⟨c10 C0 C1 C2 C3 C4 C5 C6 C7 C8 C9,M,⟨PySem.W.mg_of X G a0,PySem.W.mg_of X G a1,PySem.W.mg_of X G a2,PySem.W.mg_of X G a3,PySem.W.mg_of X G a4,PySem.W.mg_of X G a5,PySem.W.mg_of X G a6,PySem.W.mg_of X G a7,PySem.W.mg_of X G a8,PySem.W.mg_of X G a9,PySem.W.mg_of X G aM⟩,f,p⟩
theorem xisi_mk {C:Addr}{cd:ClassData}(h:PySem.W.clsIn K C=some cd)(i2:PySem.W.findIn K (.ref C) "__getattribute__"=some (some (.builtin "BaseException.__getattribute__")))(i3:PySem.W.findIn K (.ref C) "__getattr__"=some none)(i4:PySem.W.findIn K (.ref C) "__class__"=some (some (.builtin "object.__class__")))(i5:PySem.W.mroIn K C (.type "object")=some true)(i6:PySem.W.mroIn K C (.type "BaseException")=some true):EX.XIsi K C:=⟨by rw [h];rfl,i2,i3,i4,i5,i6⟩
theorem xmk_mk {C M f:Addr}{nm q:Str}{N:Addr}{bs:List Value}{hd:Bool}{sn:List Str}{sub:List Value}{ab:Bool}{col:Option Bool}{dd:Option Addr}{k0 k1 k2 k3 k5:Option Value}{nm' q':Str}{N':Addr}{bs':List Value}{hd':Bool}{sn':List Str}{sub':List Value}{ab':Bool}{col':Option Bool}{dd':Option Addr}{j0 j1 j2 j3 j5:Option Value}
    (init:PySem.W.findIn K (.ref C) "__init__"=some (some (.ref f)))
    (lk:K.lookup C=some (excClassObj nm q C N bs (.ref M::bmVal) hd sn sub ab col dd k0 k1 k2 k3 k5 "ValueError.__new__")) (lkM:K.lookup M=some (excClassObj nm' q' M N' bs' bmVal hd' sn' sub' ab' col' dd' j0 j1 j2 j3 j5 "ValueError.__new__"))
    (mq:PySem.W.excIn K M bmVal "ValueError.__new__"=true) (mk:PySem.W.keepIn K (.ref M)=true) (fn:PySem.W.typeIn K (.ref f)=some (.type "function")) (kp:PySem.W.keepIn K (.ref C)=true):XMk K C M f :=
  ⟨⟨_,_,_,_,_,_,_,_,_,_,_,_,_,_,_,lk⟩,⟨_,_,_,_,_,_,_,_,_,_,_,_,_,_,_,lkM⟩,⟨mq,mk⟩,init,fn,kp⟩
theorem xi_mk {C M f:Addr}{fl qual:Str}{st:Stmt}{ps:List Str}{oc:Value}{od an:Option Addr}{osl:Array (Option Value)}{kV doc pm cdv ct:Value}{cd:ClassData}(mk:XMk K C M f)
    (l:K.lookup f=some ⟨oc,od,.func (PySem.W.fnOf "__init__" qual (defArgs st) (defBody st) (defScope st) .none kV doc pm an cdv ct),osl⟩) (c:PySem.W.codeIn K cdv qual=true) (k:PySem.W.keepIn K (.ref f)=true)
    (h:PySem.W.clsIn K C=some cd) (hm:cd.mro=.ref C::.ref M::bmVal) (hd:cd.hasDict=true) (sa:PySem.W.findIn K (.ref C) "__setattr__"=some (some (.builtin "object.__setattr__"))) (ob:PySem.W.mroIn K C (.type "object")=some true) (nf:PySem.W.findIn K (.ref C) fl=some none) (hdI:PySem.W.hasDictIn K C=true)
    (hb:∀ (kV doc pm:Value) (an:Option Addr) (cdv ct:Value) (us:List Value),us.length=ps.length→bindArgs (PySem.W.fnOf "__init__" qual (defArgs st) (defBody st) (defScope st) .none kV doc pm an cdv ct) ⟨us,[]⟩=pure (ps.zip us)):XI K C M fl qual st ps :=
  ⟨makerX_mk l c k mk hb,⟨⟨cd,h,hm,hd⟩,sa,ob⟩,nf,hdI⟩
theorem px_mk (x0:XCls K C0)(x1:XCls K C1)(x4:XCls K C4)(x5:XCls K C5)(x7:XCls K C7)(x8:XCls K C8)(x9:XCls K C9)(t:XI K C2 M "place" "BadTape.__init__" s_BadTape___init__ ["self","place"])(q:XI K C3 M "place" "BadText.__init__" s_BadText___init__ ["self","place"])(n:XI K C6 M "name" "NoColumn.__init__" s_NoColumn___init__ ["self","name"])(ini:XIni K M):PX K (c10 C0 C1 C2 C3 C4 C5 C6 C7 C8 C9) M:=⟨x0,x1,x4,x5,x7,x8,x9,t,q,n,ini⟩
theorem fx_mk (i:∀ j,j<10→EX.XIsi K (c10 C0 C1 C2 C3 C4 C5 C6 C7 C8 C9 j))(m:∀ j,j<10→PySem.W.kitOne K (.ref (c10 C0 C1 C2 C3 C4 C5 C6 C7 C8 C9 j)) (.ref M)=some true)(v:∀ j,j<10→PySem.W.kitOne K (.ref (c10 C0 C1 C2 C3 C4 C5 C6 C7 C8 C9 j)) (.type "ValueError")=some true)(k:∀ i,i<10→∀ j,j<10→PySem.W.kitOne K (.ref (c10 C0 C1 C2 C3 C4 C5 C6 C7 C8 C9 i)) (.ref (c10 C0 C1 C2 C3 C4 C5 C6 C7 C8 C9 j))=some (decide (j=i))):FX K (c10 C0 C1 C2 C3 C4 C5 C6 C7 C8 C9) M:=⟨i,m,v,k⟩
end
theorem law_mk {K:PySem.W.Frag}{h:Heap}{mg:Str→Option Value}{fa f:Addr}{oc:Value}{od an:Option Addr}{osl:Array (Option Value)}{kV doc pm cdv ct:Value}(X:K.In h)(G:h.Ns mainGlobals mg)(hfa:mg "law"=some (.ref fa))(a:PySem.W.nsIn K mainGlobals "law"=some (some (.ref f)))
    (l:K.lookup f=some ⟨oc,od,.func (PySem.W.fnOf "law" "law" (defArgs s_law) (defBody s_law) (defScope s_law) .none kV doc pm an cdv ct),osl⟩) (c:PySem.W.codeIn K cdv "law"=true) (k:PySem.W.keepIn K (.ref f)=true) :
    ∃ fd,Fun K "law" "law" s_law fa fd∧∀ (s:Shared) (v:Value),BindsTo s fd ⟨[v],[]⟩ [("_law_script",v)]:=by
  have e:=hfa.symm.trans (PySem.W.mg_of X G a)
  cases e
  exact ⟨_,fun_mk l c k,fun s v=>.of_eq rfl⟩
theorem walk {l:PySem.W.OpenLaw}{q:Program}{loose:List Str}{XP:(Str→Option Value)→Heap→Prop}{YP:World→Heap→Prop}{d:DefRec}{K:Params→PySem.W.Frag}(hn:l.most=some 63)(hdf:d.params.defaults=[])
    (hY:∀ (w:World) (h:Heap),YP w h→(K w.params).In h)
    (F:∀ (w:World) (mg:Str→Option Value) (fa:Addr) (h:Heap),(K w.params).In h→h.Ns mainGlobals mg→mg d.name=some (.ref fa) →
      ∃ fd:FuncData,(∀ (s:Shared) (u:Value),BindsTo s fd ⟨[u],[]⟩ [("_law_script",u)])∧∀ base:Heap,(K w.params).In base→base.Ns mainGlobals mg→FnOk l.prog w (K w.params) mg base CX0 40 fa fd ["_law_script"] (spLaw (K w.params))) :
    PySem.W.WalkO q loose XP YP l.row.toRowW d [] (fun f vs=>PySem.call f vs) :=
  L2.walk_of (n:=63) (k:=40) (x:="_law_script") (CX:=fun _=>CX0) (sp:=fun w=>spLaw (K w.params)) hn (by decide) hdf ⟨rfl,by decide,by decide⟩ hY F (fun _ _ a ns hl _ hS=>⟨a,ns,rfl,hS,hl,fun _=>rfl⟩) fun _ _ _ _ _ z=>z
end My
theorem PySem.W.Fast.te1309175745201495262:True:=trivial
def PySem.W.Fast.tw1309175745201495262:Unit:=()
theorem PySem.W.Fast.te7064970617191977190:True:=trivial
def PySem.W.Fast.tw7064970617191977190:Unit:=()
theorem PySem.W.Fast.te283016701516654792:True:=trivial
def PySem.W.Fast.tw283016701516654792:Unit:=()
theorem PySem.W.Fast.te8403559534865787773:True:=trivial
def PySem.W.Fast.tw8403559534865787773:Unit:=()
theorem PySem.W.Fast.te13052408679150730464:True:=trivial
def PySem.W.Fast.tw13052408679150730464:Unit:=()
theorem PySem.W.Fast.te16555476440528808052:True:=trivial
def PySem.W.Fast.tw16555476440528808052:Unit:=()
theorem PySem.W.Fast.te4868988410673395695:True:=trivial
def PySem.W.Fast.tw4868988410673395695:Unit:=()
open PySem PySem.W PyProof.Rows My L2
abbrev zP:=PySem.Challenge.rw_runmarks_k09_refusals.prog
local macro_rules | `(tactic| walk_at "d1")=>`(tactic| (dsimp only [L2.KOf]; refine' defAt_mk (by assumption) (by assumption) ?a ?l ?c ?k ?b; (case a=>k_is); (case l=>k_is); (case c=>k_is); (case k=>k_is); exact fun _ _ _ _ _ _=>all1 fun _=>rfl))
local macro_rules | `(tactic| walk_at "d2")=>`(tactic| (dsimp only [L2.KOf]; refine' defAt_mk (by assumption) (by assumption) ?a ?l ?c ?k ?b; (case a=>k_is); (case l=>k_is); (case c=>k_is); (case k=>k_is); exact fun _ _ _ _ _ _=>all2 fun _ _=>rfl))
local macro_rules | `(tactic| walk_at "cc")=>`(tactic| (refine' ⟨?a,?b,?c,?d⟩; (case a=>k_is); (case b=>k_is); (case c=>k_is); (case d=>k_is)))
local macro_rules | `(tactic| walk_at "ci")=>`(tactic| (refine' isi_to (by assumption) (by assumption) ?a ?b; (case a=>k_is); (case b=>kit_is)))
local macro_rules | `(tactic| walk_at "xi")=>`(tactic| (refine' xisi_mk ?a ?b ?c ?d ?e ?f; (case a=>k_is); (case b=>k_is); (case c=>k_is); (case d=>k_is); (case e=>k_is); (case f=>k_is)))
local macro_rules | `(tactic| walk_at "xm")=>`(tactic| (refine' xi_mk (xmk_mk ?ya ?yb ?yc ?yd ?ye ?yf ?yg) ?yh ?yi ?yj ?yk ?yl ?ym ?yn ?yo ?yp ?yq ?yr; (case ya=>k_is); (case yb=>k_is); (case yc=>k_is); (case yd=>k_exc); (case ye=>k_is); (case yf=>k_is); (case yg=>k_is); (case yh=>k_is); (case yi=>k_is); (case yj=>k_is); (case yk=>k_is); (case yl=>rfl); (case ym=>rfl); (case yn=>k_is); (case yo=>k_is); (case yp=>k_is); (case yq=>k_is); (case yr=>exact fun _ _ _ _ _ _=>all2 fun _ _=>rfl)))
local macro_rules | `(tactic| walk_at "cn")=>`(tactic| (show PySem.W.findIn _ _ _ = _; k_is))
local macro_rules | `(tactic| walk_at "ic")=>`(tactic| (refine' int_mk (by assumption) (by assumption) ?a; (case a=>k_is)))
set_option maxRecDepth 100000 in
set_option maxHeartbeats 0 in
theorem PySem.Challenge.cw_runmarks_k09_refusals_holds : PySem.Challenge.rw_runmarks_k09_refusals.Holds := by
  w_on;o_law;k_head;(case hw=>w_witness2)
  k_fill
  refine My.walk (l:=PySem.Challenge.rw_runmarks_k09_refusals) rfl rfl (fun w h Y=>PySem.W.kIn_of Y) ?F
  case F =>
    intro w mg fa h KX G hmg
    have D_l_cell_at:DefAt (L2.KOf KX) mg "_law_cell_at" s_l_cell_at ["_law_script","_law_k"]:=by walk_at "d2"
    have D_l_whole:DefAt (L2.KOf KX) mg "_law_whole" s_l_whole ["_law_found"]:=by walk_at "d1"
    have D_l_mixed:DefAt (L2.KOf KX) mg "_law_mixed" s_l_mixed ["_law_cell","_law_k"]:=by walk_at "d2"
    have D_l_flags:DefAt (L2.KOf KX) mg "_law_flags" s_l_flags ["_law_e"]:=by walk_at "d1"
    have D_l_name:DefAt (L2.KOf KX) mg "_law_name" s_l_name ["_law_cell"]:=by walk_at "d1"
    have B:Blt mg:=by
      refine' ⟨PySem.W.mg_none_of KX G ?z0,PySem.W.mg_none_of KX G ?z1,PySem.W.mg_none_of KX G ?z2,PySem.W.mg_none_of KX G ?z3,PySem.W.mg_none_of KX G ?z4,PySem.W.mg_none_of KX G ?z5⟩
      (case z0=>k_is);(case z1=>k_is);(case z2=>k_is);(case z3=>k_is);(case z4=>k_is);(case z5=>k_is)
    have L:∃ fd,Fun (L2.KOf KX) "law" "law" s_law fa fd∧∀ (s:Shared) (v:Value),BindsTo s fd ⟨[v],[]⟩ [("_law_script",v)]:=by
      dsimp only [L2.KOf]
      refine' My.law_mk KX G hmg ?aL ?lL ?cL ?kL
      (case aL=>k_is);(case lL=>k_is);(case cL=>k_is);(case kL=>k_is)
    obtain ⟨fd,FL,bL⟩:=L
    refine ⟨fd,bL,fun base _ _=>?_⟩
    have eX:∃ c M,NX mg c M∧FX (L2.KOf KX) c M∧PX (L2.KOf KX) c M:=by
      dsimp only [L2.KOf]
      refine' nx_mk KX G ?a0 ?a1 ?a2 ?a3 ?a4 ?a5 ?a6 ?a7 ?a8 ?a9 ?aM ?yf ?yp
      (case a0=>k_is);(case a1=>k_is);(case a2=>k_is);(case a3=>k_is);(case a4=>k_is);(case a5=>k_is);(case a6=>k_is);(case a7=>k_is);(case a8=>k_is);(case a9=>k_is);(case aM=>k_is)
      case yf =>
        refine' fx_mk (all10 (p:=fun _ c=>EX.XIsi _ c) ?_ ?_ ?_ ?_ ?_ ?_ ?_ ?_ ?_ ?_) (all10 (p:=fun _ c=>PySem.W.kitOne _ (.ref c) _=some true) ?_ ?_ ?_ ?_ ?_ ?_ ?_ ?_ ?_ ?_) (all10 (p:=fun _ c=>PySem.W.kitOne _ (.ref c) _=some true) ?_ ?_ ?_ ?_ ?_ ?_ ?_ ?_ ?_ ?_) (all10 (p:=fun i c=>∀ j,j<10→PySem.W.kitOne _ (.ref c) (.ref (c10 _ _ _ _ _ _ _ _ _ _ j))=some (decide (j=i))) ?_ ?_ ?_ ?_ ?_ ?_ ?_ ?_ ?_ ?_)
        iterate 10 (· walk_at "xi")
        iterate 20 (· kit_is)
        all_goals (refine' all10 (p:=fun j c=>PySem.W.kitOne _ _ (.ref c)=some (decide (j=_))) ?_ ?_ ?_ ?_ ?_ ?_ ?_ ?_ ?_ ?_<;>kit_is)
      case yp =>
        refine' px_mk ?_ ?_ ?_ ?_ ?_ ?_ ?_ ?_ ?_ ?_ ?_
        iterate 7 (· refine' ⟨?a,?b⟩;(case a=>k_exc);(case b=>k_is))
        iterate 3 (· walk_at "xm")
        · refine' ⟨?a,?b,?c⟩;(case a=>k_is);(case b=>k_is);(case c=>k_is)
    obtain ⟨c,M,nx,fx,px⟩:=eX
    have h_l_mixed:=ok_mixed (P:=zP) (w:=w) (base:=base) D_l_mixed
    have h_l_cell_at:=ok_cell_at (P:=zP) (w:=w) (base:=base) B D_l_cell_at
    have h_l_whole:=ok_whole (P:=zP) (w:=w) (base:=base) B D_l_whole
    have h_l_name:=ok_name (P:=zP) (w:=w) (base:=base) B h_l_mixed D_l_name
    have h_l_flags:=ok_flags (P:=zP) (w:=w) (base:=base) B fx nx D_l_flags
    have h_BadTape:=ok_BadTape (P:=zP) (w:=w) (base:=base) nx.m px.ini nx.n2 px.t
    have h_BadText:=ok_BadText (P:=zP) (w:=w) (base:=base) nx.m px.ini nx.n3 px.q
    have h_NoColumn:=ok_NoColumn (P:=zP) (w:=w) (base:=base) nx.m px.ini nx.n6 px.n
    exact (ok_law B fx nx px h_l_mixed h_l_cell_at h_l_whole h_l_name h_l_flags h_BadTape h_BadText h_NoColumn FL).mono (by decide)
#print axioms PySem.Challenge.cw_runmarks_k09_refusals_holds
