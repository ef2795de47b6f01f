import PyProof.Rows.All
import Wide.All
import OpenK.AllK
import Wide.FinOn
import Lean
import PyProof.EqAt
import PyProof.EqKinds
import PyProof.TupleCall
import PyProof.Rows.TupIter
import PyProof.ZipIter
import PyProof.MinMaxWalk
import PyProof.WalkInts
import PyProof.WalksMore
import PyProof.SeqI3
import PyProof.Rows.SetFrom
import PyProof.Rows.SortShell
import OpenK.KMore
import KE.KSortTup
import KE.KDictSum
import KE.KDictLaws
import KE.KIntText
import KE.IntTextLaws
import PyProof.StrBlockI
import PyProof.ConsumeWalk
import PyProof.StrLawsIn
import KE.KDictOf
import KE.KEqDict
import KE.KMinBuiltin
import PyProof.Rows.CallKwBuiltin
import PySem.Challenge.RW_runmarks_k66_what_holds
set_option maxHeartbeats 4000000
local macro_rules | `(tactic| omega) => `(tactic| lia)
local macro_rules | `(tactic| walk_at "l") => `(tactic| first | exact Or.inl rfl | exact Or.inr rfl)
local macro_rules | `(tactic| walk_at "s") => `(tactic| exact ⟨rfl,rfl,rfl,by decide +kernel,rfl,by decide +kernel,by decide +kernel⟩)
set_option Elab.async false
set_option linter.all false
set_option maxRecDepth 100000
namespace L2
open PySem PySem.Spec PyProof.Rows
abbrev Key:=Sum Int Str
def keyIs:Key→Value→Bool
  | .inl k,v=>Value.isInt k v
  | .inr x,v=>Value.isStrOf x v
def keyH (w:World):Key→Int
  | .inl k=>hashInt k
  | .inr x=>hashStr w x
theorem keyIs_shape:∀ {k:Key} {v:Value},keyIs k v=true→(∃ i t,k=Sum.inl i∧v=Value.int i t)∨(∃ x t,k=Sum.inr x∧v=Value.str x t)
  | .inl i,v,h=>by
    obtain ⟨t,e⟩:=Value.isInt_shape (k:=i) (v:=v) h
    exact .inl ⟨i,t,rfl,e⟩
  | .inr x,v,h=>by
    obtain ⟨t,e⟩:=Value.isStrOf_shape (x:=x) (v:=v) h
    exact .inr ⟨x,t,rfl,e⟩
theorem keyIs_int (i:Int)(t:Tok):keyIs (.inl i) (.int i t)=true:=by simp [keyIs,Value.isInt]
theorem keyIs_str (x:Str)(t:Tok):keyIs (.inr x) (.str x t)=true:=by simp [keyIs,Value.isStrOf]
theorem key_ll (a b:Int):decide ((Sum.inl a:Key)=Sum.inl b)=(a==b):=by
  by_cases e:a=b
  · subst e;simp
  · have h:¬ (Sum.inl a:Key)=Sum.inl b:=fun q=>e (Sum.inl.inj q)
    rw [decide_eq_false h]
    exact (beq_eq_false_iff_ne.mpr e).symm
theorem key_rr (a b:Str):decide ((Sum.inr a:Key)=Sum.inr b)=decide (a=b):=by
  by_cases e:a=b
  · subst e;simp
  · have h:¬ (Sum.inr a:Key)=Sum.inr b:=fun q=>e (Sum.inr.inj q)
    rw [decide_eq_false h,decide_eq_false e]
theorem key_lr (a:Int)(b:Str):decide ((Sum.inl a:Key)=Sum.inr b)=false:=decide_eq_false (fun q=>nomatch q)
theorem key_rl (a:Str)(b:Int):decide ((Sum.inr a:Key)=Sum.inl b)=false:=decide_eq_false (fun q=>nomatch q)
def mixKind (prog:Program) (w:World):PySem.KeyKind prog w Key where
  is:=keyIs
  hash:=keyH w
  inj := fun v a b ha hb=>by
    rcases keyIs_shape ha with ⟨i,t,rfl,rfl⟩ | ⟨x,t,rfl,rfl⟩
    · rcases keyIs_shape hb with ⟨j,u,rfl,e⟩ | ⟨y,u,rfl,e⟩
      · injection e with e1 _;rw [e1]
      · exact nomatch e
    · rcases keyIs_shape hb with ⟨j,u,rfl,e⟩ | ⟨y,u,rfl,e⟩
      · exact nomatch e
      · injection e with e1 _;rw [e1]
  byValue:=fun k v h=>by
    rcases keyIs_shape h with ⟨i,t,rfl,rfl⟩ | ⟨x,t,rfl,rfl⟩<;>rfl
  pyHash:=fun hv h=>by
    rcases keyIs_shape hv with ⟨i,t,rfl,rfl⟩ | ⟨x,t,rfl,rfl⟩
    · exact wpAny_pyHash_int h
    · exact wpAny_pyHash_str h
  eqBool:=fun hu hv h=>by
    rcases keyIs_shape hu with ⟨i,t,rfl,rfl⟩ | ⟨x,t,rfl,rfl⟩
    · rcases keyIs_shape hv with ⟨j,u,rfl,rfl⟩ | ⟨y,u,rfl,rfl⟩
      · rw [key_ll] at h;exact wpAny_eqBool_int h
      · rw [key_lr] at h;exact SeqAt.EqAt.int_str i t y u _ _ _ _ h
    · rcases keyIs_shape hv with ⟨j,u,rfl,rfl⟩ | ⟨y,u,rfl,rfl⟩
      · rw [key_rl] at h;exact SeqAt.EqAt.str_int x t j u _ _ _ _ h
      · rw [key_rr] at h;exact wpAny_eqBool_str h
  «strs»:=fun k x t v h=>by
    rcases keyIs_shape h with ⟨i,u,rfl,e⟩ | ⟨y,u,rfl,e⟩
    · exact nomatch e
    · injection e with e1 _
      subst e1
      cases v<;>rfl
theorem mixKind_int (prog:Program)(w:World)(i:Int)(t:Tok):(mixKind prog w).is (.inl i) (.int i t)=true:=keyIs_int i t
theorem mixKind_str (prog:Program)(w:World)(x:Str)(t:Tok):(mixKind prog w).is (.inr x) (.str x t)=true:=keyIs_str x t
end L2
namespace L2
open PySem PySem.Spec PyProof.Rows
inductive V where
  | non | bl (b:Bool) | int (i:Int) | str (x:Str) | byt (b:Array UInt8) | flt (b:UInt64) | ref (a:Addr) | ty (n:String)
  deriving DecidableEq
def RelV:V→Value→Prop
  | .non,u=>u=Value.none
  | .bl b,u=>u=Value.bool b
  | .int i,u=>∃ t,u=Value.int i t
  | .str x,u=>∃ t,u=Value.str x t
  | .byt b,u=>∃ t,u=Value.bytes b t
  | .flt b,u=>∃ t,u=Value.float b t
  | .ref a,u=>u=Value.ref a
  | .ty n,u=>u=Value.type n
abbrev Vals:List V→List Value→Prop:=Paired RelV
theorem Vals.length {xs:List V}{us:List Value}(r:Vals xs us):xs.length=us.length:=Paired.length r
theorem Vals.get:∀ {xs:List V} {us:List Value} {i:Nat} {x:V},Vals xs us→xs[i]?=some x→∃ u,us[i]?=some u∧RelV x u
  | _,_,_,_,.nil,e=>by simp at e
  | _,_,0,_,.cons r _,e=>by simp at e;subst e;exact ⟨_,rfl,r⟩
  | _,_,i+1,x,.cons _ t,e=>by
    obtain ⟨u,h1,h2⟩:=Vals.get (i:=i) (x:=x) t (by simpa using e)
    exact ⟨u,by simpa using h1,h2⟩
theorem Vals.append:∀ {xs ys:List V} {us ws:List Value},Vals xs us→Vals ys ws→Vals (xs++ys) (us++ws)
  | _,_,_,_,.nil,s=>s
  | _,_,_,_,.cons r t,s=>.cons r (Vals.append t s)
theorem Vals.take:∀ {xs:List V} {us:List Value} (n:Nat),Vals xs us→Vals (xs.take n) (us.take n)
  | _,_,0,_=>.nil
  | _,_,_+1,.nil=>.nil
  | _,_,n+1,.cons r t=>.cons r (Vals.take n t)
theorem Vals.drop:∀ {xs:List V} {us:List Value} (n:Nat),Vals xs us→Vals (xs.drop n) (us.drop n)
  | _,_,0,r=>r
  | _,_,_+1,.nil=>.nil
  | _,_,n+1,.cons _ t=>Vals.drop n t
def RelO:Option V→Option Value→Prop
  | some v,some u=>RelV v u
  | none,none=>True
  | _,_=>False
def KV {κ:Type}:List (κ × V)→List (κ × Value)→Prop:=Paired fun (p:κ × V) (q:κ × Value)=>p.1=q.1∧RelV p.2 q.2
def kV:Key→V
  | .inl i=>.int i
  | .inr x=>.str x
inductive HO where
  | lst (xs:List V)
  | tup (xs:List V)
  | dK (kvs:List (Key × V)) | dT (kvs:List (List Key × V))
  | set (S:Int→Bool) (n:Nat)
  | ins (C dx:Addr) (fs:List (Str × V))
  | own (x:Addr)
  | xd (fs:List (Str × V))
  | met (f x:Addr)
  | rng (lo hi:Int)
  | frz (o:Obj) (u:HO)
  | tbl (ps:Array Value)
  | ext (φ:Heap→Prop)
abbrev Hp:=Addr→Option HO
def upd (H:Hp)(a:Addr)(o:HO):Hp:=fun b=>if b=a then some o else H b
theorem upd_same {H:Hp}{a:Addr}{o:HO}:upd H a o a=some o:=by unfold upd;rw [if_pos rfl]
theorem upd_ne {H:Hp}{a b:Addr}{o:HO}(h:b≠a):upd H a o b=H b:=by unfold upd;rw [if_neg h]
theorem ne_of {H:Hp}{a b:Addr}{o u:HO}(h:H a=some o)(h':H b=some u)(d:o≠u):a≠b:=by
  intro e;subst e;rw [h] at h';exact d (Option.some.inj h')
theorem ne_of_none {H:Hp}{a b:Addr}{o:HO}(h:H a=some o)(h':H b=none):a≠b:=by
  intro e;subst e;rw [h] at h';cases h'
section
variable (P:Program)(w:World)
def ObjOk (H:Hp)(h:Heap)(a:Addr):HO→Prop
  | .lst xs=>xs.length≤sizeLine∧∃ (its:List Value) (n:Nat),Vals xs its∧h.get? a=some { cls:=.type "list",data:=.seq its.toArray n }
  | .tup xs=>xs.length≤sizeLine∧∃ its:List Value,Vals xs its∧IsTup h a its.toArray
  | .dK kvs=>kvs.length≤sizeLine∧(a==sysModules)=false∧∃ vs,KV kvs vs∧h.DictOf (mixKind P w) a vs
  | .dT kvs=>kvs.length≤sizeLine∧(a==sysModules)=false∧∃ xs:List (List Key × Addr × Value),
      Paired (fun (p:List Key × V) (q:List Key × Addr × Value)=>p.1=q.1∧H q.2.1=some (.tup (p.1.map kV))∧RelV p.2 q.2.2) kvs xs ∧
      ∃ o es ep,h.get? a=some o∧o.ExactDict∧o.data=.dict es ep∧es.toList=xs.map (entryOfKey (tupleKind (mixKind P w)))∧(xs.map (·.1)).Nodup
  | .set S n=>h.SetOf (intKind P w) a S n
  | .ins C dx fs=>H dx=some (.own a)∧fs.length≤1000∧dx≠a∧h.get? a=some (PySem.W.instObj C dx) ∧
      ∃ mA,h.Ns1 dx mA∧(∀ f,RelO (fs.lookup f) (mA f))∧PySem.Within mA (fs.map (·.1))
  | .own _=>∃ o,h.get? a=some o
  | .xd fs=>∃ mA,h.Ns1 a mA∧∀ f,RelO (fs.lookup f) (mA f)
  | .rng lo hi=>∃ t u v,h.get? a=some { cls:=.type "range",data:=.fields #[.int lo t,.int hi u,.int 1 v] }
  | .frz o u=>h.get? a=some o∧ObjOk H h a u
  | .tbl ps=>h.get? a=some { cls:=.none,data:=.fields ps }
  | .met f x=>h.get? a=some (PySem.W.methodObj (.ref f) (.ref x))
  | .ext φ=>φ h∧(∃ o,h.get? a=some o)∧∀ h1 h2:Heap,φ h1→(∀ o,h1.get? a=some o→h2.get? a=some o)→φ h2
def HOk (H:Hp)(h:Heap):Prop:=∀ a o,H a=some o→ObjOk P w H h a o
end
section
variable {P:Program}{w:World}{H H':Hp}{h h':Heap}{a:Addr}{o:HO}
theorem ObjOk.lt (x:ObjOk P w H h a o):a<h.objs.size:=by
  cases o with
  | lst xs=>obtain ⟨_,_,_,_,e⟩:=x;exact Heap.lt_size e
  | tup xs=>obtain ⟨_,_,_,p⟩:=x;exact p.lt
  | dK kvs=>obtain ⟨_,_,_,_,o,_,_,e,_⟩:=x;exact Heap.lt_size e
  | dT kvs=>obtain ⟨_,_,_,_,o,_,_,e,_⟩:=x;exact Heap.lt_size e
  | set S n=>obtain ⟨o,_,_,_,e,_⟩:=x;exact Heap.lt_size e
  | ins C dx fs=>obtain ⟨_,_,_,e,_⟩:=x;exact Heap.lt_size e
  | own y=>obtain ⟨_,e⟩:=x;exact Heap.lt_size e
  | xd fs=>obtain ⟨_,⟨_,_,_,e,_⟩,_⟩:=x;exact Heap.lt_size e
  | rng lo hi=>obtain ⟨_,_,_,e⟩:=x;exact Heap.lt_size e
  | frz ob u=>obtain ⟨e,_⟩:=x;exact Heap.lt_size e
  | tbl ps=>exact Heap.lt_size (show h.get? a=some _ from x)
  | met f y=>exact Heap.lt_size (show h.get? a=some _ from x)
  | ext φ=>obtain ⟨_,⟨_,e⟩,_⟩:=x;exact Heap.lt_size e
theorem Paired.mapP {α β:Type}{F G:α→β→Prop}:∀ {l₁:List α} {l₂:List β},Paired F l₁ l₂→(∀ a b,F a b→G a b)→Paired G l₁ l₂
  | _,_,.nil,_=>.nil
  | _,_,.cons r t,f=>.cons (f _ _ r) (Paired.mapP t f)
theorem ObjOk.stay (x:ObjOk P w H h a o)(k:∀ b u,(b=a∨H b=some (.own a))→h.get? b=some u→h'.get? b=some u)
    (ho:∀ b,H b=some (.own a)→H' b=some (.own a)) (ht:∀ b xs,H b=some (.tup xs)→H' b=some (.tup xs)):ObjOk P w H' h' a o:=by
  induction o with
  | lst xs=>obtain ⟨z,its,n,r,e⟩:=x;exact ⟨z,its,n,r,k _ _ (.inl rfl) e⟩
  | tup xs=>obtain ⟨z,its,r,ob,e,c⟩:=x;exact ⟨z,its,r,ob,k _ _ (.inl rfl) e,c⟩
  | dK kvs=>obtain ⟨z,y,vs,r,ob,es,ep,e,c⟩:=x;exact ⟨z,y,vs,r,ob,es,ep,k _ _ (.inl rfl) e,c⟩
  | dT kvs =>
    obtain ⟨z,y,xs,r,ob,es,ep,e,c⟩:=x
    exact ⟨z,y,xs,Paired.mapP r fun p q z=>⟨z.1,ht _ _ z.2.1,z.2.2⟩,ob,es,ep,k _ _ (.inl rfl) e,c⟩
  | set S n=>obtain ⟨ob,es,ep,t,e,c⟩:=x;exact ⟨ob,es,ep,t,k _ _ (.inl rfl) e,c⟩
  | ins C dx fs =>
    obtain ⟨d,z,ne,e,mA,⟨od,es,ep,e2,c⟩,r⟩:=x
    exact ⟨ho _ d,z,ne,k _ _ (.inl rfl) e,mA,⟨od,es,ep,k _ _ (.inr d) e2,c⟩,r⟩
  | own y=>obtain ⟨ob,e⟩:=x;exact ⟨ob,k _ _ (.inl rfl) e⟩
  | xd fs=>obtain ⟨mA,⟨od,es,ep,e,c⟩,r⟩:=x;exact ⟨mA,⟨od,es,ep,k _ _ (.inl rfl) e,c⟩,r⟩
  | rng lo hi=>obtain ⟨t,u,v,e⟩:=x;exact ⟨t,u,v,k _ _ (.inl rfl) e⟩
  | frz ob u ih=>obtain ⟨e,q⟩:=x;exact ⟨k _ _ (.inl rfl) e,ih q⟩
  | tbl ps =>
    have e:h.get? a=some { cls:=.none,data:=.fields ps }:=x
    show h'.get? a=some { cls:=.none,data:=.fields ps }
    exact k a _ (.inl rfl) e
  | met f y =>
    have e:h.get? a=some (PySem.W.methodObj (.ref f) (.ref y)):=x
    show h'.get? a=some (PySem.W.methodObj (.ref f) (.ref y))
    exact k a _ (.inl rfl) e
  | ext φ=>obtain ⟨p,⟨o,e⟩,st⟩:=x;exact ⟨st _ _ p fun o q=>k _ _ (.inl rfl) q,⟨o,k _ _ (.inl rfl) e⟩,st⟩
theorem HOk.lt (x:HOk P w H h)(e:H a=some o):a<h.objs.size:=(x a o e).lt
theorem HOk.fresh (x:HOk P w H h)(e:h.objs.size≤a):H a=none:=by
  cases q:H a with
  | none=>rfl
  | some u=>exact absurd (Nat.lt_of_lt_of_le (x.lt q) e) (Nat.lt_irrefl _)
theorem HOk.kept (x:HOk P w H h)(k:∀ b u,h.get? b=some u→h'.get? b=some u):HOk P w H h':=fun a o e =>
  (x a o e).stay (fun b u _ q=>k b u q) (fun _ q=>q) fun _ _ q=>q
theorem HOk.laid (x:HOk P w H h)(k:∀ b u,h.get? b=some u→h'.get? b=some u)(hp:h.objs.size≤a)(new:ObjOk P w (upd H a o) h' a o):HOk P w (upd H a o) h':=fun b u e=>by
  have hn:=x.fresh hp
  by_cases hb:b=a
  · subst hb;rw [upd_same] at e;cases e;exact new
  · rw [upd_ne hb] at e
    exact (x b u e).stay (fun c v _ q=>k c v q) (fun c q=>by rw [upd_ne (ne_of_none q hn)];exact q) fun c xs q=>by rw [upd_ne (ne_of_none q hn)];exact q
end
def Rd (H:Hp)(a:Addr)(u:HO):Prop:=H a=some u∨∃ o,H a=some (.frz o u)
theorem Rd.ok {P:Program}{w:World}{H:Hp}{h:Heap}{a:Addr}{u:HO}(r:Rd H a u)(x:HOk P w H h):ObjOk P w H h a u:=by
  rcases r with r | ⟨o,r⟩
  · exact x a u r
  · obtain ⟨_,q⟩:=x a _ r
    exact q
def Mut:Option HO→Prop
  | some (.lst _)=>True
  | some (.dK _)=>True
  | some (.dT _)=>True
  | some (.set _ _)=>True
  | some (.ins _ _ _)=>True
  | some (.ext _)=>True
  | _=>False
section
variable {P:Program}{w:World}{H:Hp}{h h':Heap}{x e:Addr}{o':HO}
theorem HOk.write (ok:HOk P w H h) (mu:Mut (H x)) (he:e=x∨H e=some (.own x)) (k:∀ b u,b≠e→h.get? b=some u→h'.get? b=some u) (heo:∃ u,h'.get? e=some u)
    (new:ObjOk P w (upd H x o') h' x o'):HOk P w (upd H x o') h':=fun b u q=>by
  have nown:∀ c y,H c=some (.own y)→c≠x:=fun c y r z=>by subst z;rw [r] at mu;exact mu
  have ntup:∀ c xs,H c=some (.tup xs)→c≠x:=fun c xs r z=>by subst z;rw [r] at mu;exact mu
  by_cases hb:b=x
  · subst hb;rw [upd_same] at q;cases q;exact new
  · rw [upd_ne hb] at q
    by_cases hbe:b=e
    · have q':H b=some (.own x):=by
        rcases he with z | z
        · exact absurd (hbe.trans z) hb
        · rw [hbe];exact z
      rw [q] at q';cases q'
      obtain ⟨v,hv⟩:=heo
      exact ⟨v,by rw [hbe];exact hv⟩
    · refine (ok b u q).stay (fun c v hc r=>k c v ?_ r) (fun c r=>by rw [upd_ne (nown c b r)];exact r) fun c xs r=>by rw [upd_ne (ntup c xs r)];exact r
      rcases hc with rfl | hc
      · exact hbe
      · rintro rfl
        rcases he with z | z
        · exact nown c b hc z
        · rw [hc] at z;cases z;exact hb rfl
end
structure Un (fs ex:List Addr)(H H':Hp)(h h':Heap):Prop where
  keep:∀ b o,h.get? b=some o→H b=none→b∉fs→b∉ex→h'.get? b=some o
  slot:∀ b o,h.get? b=some o→H b=none→b∈fs→b∉ex→∃ sl,h'.get? b=some { o with slots:=sl }
  free:∀ b o,h.get? b=some o→H b=none→b∉ex→H' b=none
  there:∀ b o,h.get? b=some o→b∉ex→∃ o',h'.get? b=some o'
  tups:∀ b xs,H b=some (.tup xs)→H' b=some (.tup xs)
  frzs:∀ b o u,H b=some (.frz o u)→H' b=some (.frz o u)
  tbls:∀ b ps,H b=some (.tbl ps)→∃ more,H' b=some (.tbl (ps++more))
section
variable {fs fs' ex ex':List Addr}{H H1 H2:Hp}{h h1 h2 h':Heap}{a x e:Addr}{o:HO}
theorem Un.any (u:Un fs ex H H1 h h1){b:Addr}{ob:Obj}(q:h.get? b=some ob)(n:H b=none)(hx:b∉ex):∃ sl,h1.get? b=some { ob with slots:=sl }:=by
  by_cases hb:b∈fs
  · exact u.slot b ob q n hb hx
  · exact ⟨ob.slots,u.keep b ob q n hb hx⟩
theorem Un.trans (a:Un fs ex H H1 h h1)(b:Un fs ex H1 H2 h1 h2):Un fs ex H H2 h h2 where
  keep:=fun c ob q n hc hx=>b.keep c ob (a.keep c ob q n hc hx) (a.free c ob q n hx) hc hx
  slot:=fun c ob q n hc hx=>by
    obtain ⟨sl,e1⟩:=a.slot c ob q n hc hx
    obtain ⟨sl',e2⟩:=b.slot c _ e1 (a.free c ob q n hx) hc hx
    exact ⟨sl',e2⟩
  free:=fun c ob q n hx=>by
    obtain ⟨o',e1⟩:=a.there c ob q hx
    exact b.free c o' e1 (a.free c ob q n hx) hx
  there:=fun c ob q hx=>by
    obtain ⟨o',e1⟩:=a.there c ob q hx
    exact b.there c o' e1 hx
  tups:=fun c xs q=>b.tups c xs (a.tups c xs q)
  frzs:=fun c ob xs q=>b.frzs c ob xs (a.frzs c ob xs q)
  tbls:=fun c ps q=>by
    obtain ⟨m1,e1⟩:=a.tbls c ps q
    obtain ⟨m2,e2⟩:=b.tbls c _ e1
    exact ⟨m1++m2,by rw [e2,Array.append_assoc]⟩
theorem Un.kept (k:∀ b u,h.get? b=some u→h'.get? b=some u):Un fs ex H H h h' :=
  ⟨fun b ob q _ _ _=>k b ob q,fun b ob q _ _ _=>⟨ob.slots,k b ob q⟩,fun _ _ _ n _=>n,fun b ob q _=>⟨ob,k b ob q⟩,fun _ _ q=>q,fun _ _ _ q=>q,fun _ ps q=>⟨#[],by rw [q];simp⟩⟩
theorem Un.refl:Un fs ex H H h h:=Un.kept fun _ _ q=>q
theorem Un.laid (k:∀ b u,h.get? b=some u→h'.get? b=some u)(hp:h.objs.size≤a)(hn:H a=none):Un fs ex H (upd H a o) h h' where
  keep:=fun b u q _ _ _=>k b u q
  slot:=fun b u q _ _ _=>⟨u.slots,k b u q⟩
  free:=fun b u q n _=>by rw [upd_ne (Nat.ne_of_lt (Nat.lt_of_lt_of_le (Heap.lt_size q) hp))];exact n
  there:=fun b u q _=>⟨u,k b u q⟩
  tups:=fun b xs q=>by rw [upd_ne (ne_of_none q hn)];exact q
  frzs:=fun b u xs q=>by rw [upd_ne (ne_of_none q hn)];exact q
  tbls:=fun b ps q=>⟨#[],by rw [upd_ne (ne_of_none q hn),q];simp⟩
theorem Un.write (mu:Mut (H x))(he:e=x∨H e=some (.own x))(k:∀ b u,b≠e→h.get? b=some u→h'.get? b=some u)(heo:∃ u,h'.get? e=some u):Un fs ex H (upd H x o) h h':=by
  have hx:∀ b,H b=none→b≠x:=fun b n z=>by subst z;rw [n] at mu;exact mu
  have hb:∀ b,H b=none→b≠e:=fun b n z=>by
    subst z
    rcases he with r | r
    · exact hx b n r
    · rw [n] at r;cases r
  have hm:∀ b u,H b=some u→¬ Mut (some u)→b≠x:=fun b u q nm z=>by subst z;rw [q] at mu;exact nm mu
  refine ⟨fun b u q n _ _=>k b u (hb b n) q,fun b u q n _ _=>⟨u.slots,k b u (hb b n) q⟩,fun b u q n _=>by rw [upd_ne (hx b n)];exact n,fun b u q _=>?_,
    fun b xs q=>by rw [upd_ne (hm b _ q fun z=>z)];exact q,fun b u xs q=>by rw [upd_ne (hm b _ q fun z=>z)];exact q,fun b ps q=>⟨#[],by rw [upd_ne (hm b _ q fun z=>z),q];simp⟩⟩
  by_cases hbe:b=e
  · subst hbe;exact heo
  · exact ⟨u,k b u hbe q⟩
end
def trk (h:Heap)(H:Hp):List Addr:=(List.range h.objs.size).filter fun a=>(H a).isSome
def hidT (h:Heap)(H:Hp):Heap:=PySem.W.hideAll h (trk h H)
theorem hidT_size (h:Heap)(H:Hp):(hidT h H).objs.size=h.objs.size:=PySem.W.hideAll_size _ _
theorem hidT_get {h:Heap}{H:Hp}{b:Addr}{o:Obj}(e:h.get? b=some o)(n:H b=none):(hidT h H).get? b=some o :=
  PySem.W.hideAll_get _ e fun hm=>by
    have q:(H b).isSome=true:=(List.mem_filter.mp hm).2
    rw [n] at q;simp at q
theorem of_hidT {h:Heap}{H:Hp}{b:Addr}{o:Obj}(e:(hidT h H).get? b=some o):h.get? b=some o∧H b=none:=by
  have e':h.get? b=some o:=PySem.W.of_hideAll (trk h H) e
  refine ⟨e',?_⟩
  cases q:H b with
  | none=>rfl
  | some x =>
    have hm:b∈trk h H:=List.mem_filter.mpr ⟨List.mem_range.mpr (Heap.lt_size e'),by simp [q]⟩
    have z:(hidT h H).get? b=none:=PySem.W.hideAll_none (trk h H) hm
    rw [z] at e;cases e
def allNews (g h:Heap)(L:Addr):List (Addr × Obj):=(List.range h.objs.size).filterMap fun a=>if a=L∨(g.get? a).isSome=true then none else (h.get? a).map fun o=>(a,o)
def rest (g h:Heap)(L d:Addr):List (Addr × Obj):=(allNews g h L).filter fun p=>decide (p.1≠d)
end L2
namespace L2
open PySem PySem.Spec PyProof.Rows
structure Mod (K:PySem.W.Frag)(mg:Str→Option Value)(base:Heap):Prop where
  kin:K.In base
  glob:base.Ns mainGlobals mg
  blt:∃ mb,base.Ns builtinsNs mb∧∀ x:Str,x≠"__name__"→mb x=bootBuiltins x
  nolimit:base.NoLimit
structure Cx where
  prog:Program
  w:World
  K:PySem.W.Frag
  mg:Str→Option Value
  base:Heap
  A:Around
  N:List Str
  s₀:Shared
  H₀:Hp
  env:Env
  outer:List Env
  stack:List Env
  ex:List Addr
  fn:Str→Bool
  calm:Bool
  pn:List (Addr × Obj)
  xe:Value→Shared→Prop
def frs (l:List Env):List Addr:=l.filterMap (·.frame)
abbrev Cx.fs (X:Cx):List Addr:=frs X.outer
def Vis (sc:Scope)(x:Str):Prop:=sc.names.lookup x=some .local∨sc.names.lookup x=some .cell∨sc.names.lookup x=some .free
def Loc (sc:Scope)(x:Str):Prop:=sc.names.lookup x=some .local∨sc.names.lookup x=some .cell
def Look (env:Env)(h:Heap)(m:Str→Option Value)(x:Str)(u:Value):Prop :=
  (env.kindOf x=some .local∧m x=some u)∨((env.kindOf x=some .cell∨env.kindOf x=some .free)∧∃ c,env.cells.lookup x=some c∧h.IsCell c (some u))
structure Cx.Ok (X:Cx):Prop where
  mod:Mod X.K X.mg X.base
  kind:X.env.scope.kind=.function
  glob:X.env.globals=mainGlobals
  blt:X.env.builtins=builtinsNs
  above:X.s₀.heap.objs.size≤X.env.locals
  inj:∀ x y c,X.env.cells.lookup x=some c→X.env.cells.lookup y=some c→x=y
  has:∀ x,(X.env.kindOf x=some .cell∨X.env.kindOf x=some .free)→∃ c,X.env.cells.lookup x=some c
  cab:∀ x c,X.fn x=true→X.env.cells.lookup x=some c→X.s₀.heap.objs.size≤c
  hd:X.calm=true→X.A.handled=none
  frames:X.A.frames=some X.stack
  stk:X.stack=X.outer∨(X.stack=X.env::X.outer∧X.env.frame=some X.env.locals)
  exf:∀ b∈X.ex,b≠X.env.locals∧∀ x c,X.env.cells.lookup x=some c→c≠b
  bs:∀ b o,X.base.get? b=some o→X.s₀.heap.get? b=some o∧X.H₀ b=none
  bsz:X.base.objs.size≤X.s₀.heap.objs.size
  noex:∀ b o,X.base.get? b=some o→b∉X.ex
  exfs:∀ b∈X.ex,b∉X.fs
  funs:X.s₀.heap.FunFrames X.base X.outer
  frf:∀ b∈X.fs,X.H₀ b=none
structure Inv (X:Cx)(pins:List (Addr × Obj))(σ:List (Option V))(H:Hp)(s:Shared):Prop where
  ok:X.Ok
  os:s.os=X.s₀.os
  bare:AllBare s.gens
  base:Un X.fs X.ex X.H₀ H X.s₀.heap s.heap
  loc:∃ m,s.heap.Ns X.env.locals m∧∀ (i:Nat) (x:Str) (v:V),X.N[i]?=some x→σ[i]?=some (some v)→Vis X.env.scope x→∃ u,RelV v u∧Look X.env s.heap m x u
  cell:∀ x c,X.env.cells.lookup x=some c→∃ v,s.heap.IsCell c v
  free:H X.env.locals=none
  freeC:∀ x c,X.env.cells.lookup x=some c→H c=none
  pin:∀ p∈X.pn++pins,s.heap.get? p.1=some p.2∧H p.1=none∧p.1≠X.env.locals∧p.1∉X.fs∧∀ v,p.2.data≠.cell v
  hok:HOk X.prog X.w H s.heap
  len:σ.length=X.N.length
section
variable {X:Cx}{pins:List (Addr × Obj)}{σ:List (Option V)}{H H':Hp}{s:Shared}{h':Heap}
theorem Cx.Ok.nofr (ok:X.Ok){b:Addr}{o:Obj}(e:X.base.get? b=some o):b∉X.fs:=fun hb=>by
  have:=(ok.funs.mem hb).1
  rw [e] at this;cases this
theorem Inv.bs (I:Inv X pins σ H s):∀ b o,X.base.get? b=some o→s.heap.get? b=some o∧H b=none:=fun b o e =>
  ⟨I.base.keep b o (I.ok.bs b o e).1 (I.ok.bs b o e).2 (I.ok.nofr e) (I.ok.noex b o e),I.base.free b o (I.ok.bs b o e).1 (I.ok.bs b o e).2 (I.ok.noex b o e)⟩
theorem Inv.bk (I:Inv X pins σ H s):∀ b o,X.base.get? b=some o→s.heap.get? b=some o:=fun b o e=>(I.bs b o e).1
theorem Inv.mod (I:Inv X pins σ H s):Mod X.K X.mg X.base:=I.ok.mod
theorem Inv.kIn (I:Inv X pins σ H s):X.K.In s.heap:=I.ok.mod.kin.keeps I.bk
theorem Inv.lt (I:Inv X pins σ H s):X.env.locals<s.heap.objs.size:=let ⟨_,hn,_⟩:=I.loc;hn.lt
theorem Inv.sz (I:Inv X pins σ H s):X.s₀.heap.objs.size≤s.heap.objs.size:=Nat.le_trans I.ok.above (Nat.le_of_lt I.lt)
theorem Inv.nofs (I:Inv X pins σ H s){a:Addr}(h:s.heap.objs.size≤a):a∉X.fs:=fun hb=>by
  obtain ⟨_,o,ho,_⟩:=I.ok.funs.mem hb
  exact absurd (Nat.lt_of_lt_of_le (Heap.lt_size ho) (Nat.le_trans I.sz h)) (Nat.lt_irrefl _)
theorem Inv.cne (I:Inv X pins σ H s):∀ x c,X.env.cells.lookup x=some c→c≠X.env.locals:=fun x c e z=>by
  obtain ⟨v,o,ho,hd⟩:=I.cell x c e
  obtain ⟨m,⟨o',es,ep,ho',hd',_⟩,_⟩:=I.loc
  rw [z,ho'] at ho;cases ho;rw [hd'] at hd;cases hd
theorem Inv.funs (I:Inv X pins σ H s):s.heap.FunFrames X.base X.outer:=by
  have all:∀ (l:List Env),(∀ b∈frs l,b∈X.fs)→X.s₀.heap.FunFrames X.base l→s.heap.FunFrames X.base l:=by
    intro l
    induction l with
    | nil=>intro _ _;trivial
    | cons env r ih =>
      intro hs hl
      obtain ⟨hk,⟨L,o,hf,hn,ho,hd⟩,hr⟩:=hl
      have hL:L∈X.fs:=hs L (by unfold frs;rw [List.filterMap_cons,hf];exact List.mem_cons_self)
      obtain ⟨sl,e⟩:=I.base.slot L o ho (I.ok.frf L hL) hL fun z=>I.ok.exfs L z hL
      exact ⟨hk,⟨L,_,hf,hn,e,hd⟩,ih (fun b hb=>hs b (by unfold frs;rw [List.filterMap_cons,hf];exact List.mem_cons_of_mem _ hb)) hr⟩
  exact all X.outer (fun _ hb=>hb) I.ok.funs
theorem Inv.stack (I:Inv X pins σ H s):s.heap.FunFrames X.base X.stack:=by
  rcases I.ok.stk with e | ⟨e,hf⟩
  · rw [e];exact I.funs
  · rw [e]
    obtain ⟨m,hn,_⟩:=I.loc
    refine .cons (by rw [I.ok.kind];decide) hf hn ?_ I.funs
    exact Heap.get?_none_of_le (Nat.le_trans I.ok.bsz I.ok.above)
theorem Inv.stkSub (I:Inv X pins σ H s):∀ b∈frs X.stack,b∈X.env.locals::X.fs:=fun b hb=>by
  rcases I.ok.stk with e | ⟨e,hf⟩
  · rw [e] at hb;exact List.mem_cons_of_mem _ hb
  · rw [e] at hb
    unfold frs at hb
    rw [List.filterMap_cons,hf] at hb
    exact hb
theorem Inv.stkFree (I:Inv X pins σ H s):∀ b∈frs X.stack,H b=none:=fun b hb=>by
  rcases List.mem_cons.mp (I.stkSub b hb) with e | hb
  · rw [e];exact I.free
  · obtain ⟨_,o,ho,_⟩:=I.ok.funs.mem hb
    exact I.base.free b o ho (I.ok.frf b hb) fun z=>I.ok.exfs b z hb
theorem Inv.step {g':Array GenState}{t':Nat}{d':Drawn}{ch:List Addr}(I:Inv X pins σ H s)
    (hch:∀ b∈ch,(b∈X.ex∨X.s₀.heap.objs.size≤b)∧b≠X.env.locals∧(∀ x c,X.env.cells.lookup x=some c→c≠b)∧∀ p∈X.pn++pins,p.1≠b)
    (keep:∀ b o,b≠X.env.locals→b∉X.fs→b∉ch→s.heap.get? b=some o→H b=none→h'.get? b=some o)
    (slot:∀ b o,b≠X.env.locals→b∈X.fs→b∉ch→s.heap.get? b=some o→H b=none→∃ sl,h'.get? b=some { o with slots:=sl }) (free:∀ b o,b∉ch→s.heap.get? b=some o→H b=none→H' b=none)
    (there:∀ b o,b∉ch→s.heap.get? b=some o→∃ o',h'.get? b=some o')
    (tups:∀ b xs,H b=some (.tup xs)→H' b=some (.tup xs)) (frzs:∀ b o u,H b=some (.frz o u)→H' b=some (.frz o u)) (tbls:∀ b ps,H b=some (.tbl ps)→∃ more,H' b=some (.tbl (ps++more)))
    (ns:∀ m,s.heap.Ns X.env.locals m→h'.Ns X.env.locals m) (hok:HOk X.prog X.w H' h') (hg:AllBare g') :
    Inv X pins σ H' { s with heap:=h',gens:=g',drawn:=d',toks:=t' }:=by
  have neL:∀ b o,X.s₀.heap.get? b=some o→b≠X.env.locals:=fun b o e=>Nat.ne_of_lt (Nat.lt_of_lt_of_le (Heap.lt_size e) I.ok.above)
  have neC:∀ b o,X.s₀.heap.get? b=some o→b∉X.ex→b∉ch:=fun b o e hx hb=>by
    rcases (hch b hb).1 with z | z
    · exact hx z
    · exact absurd (Nat.lt_of_lt_of_le (Heap.lt_size e) z) (Nat.lt_irrefl _)
  have cellK:∀ x c,X.env.cells.lookup x=some c→∀ v,s.heap.IsCell c v→h'.IsCell c v:=fun x c e v ⟨o,ho,hd⟩=>by
    have nch:c∉ch:=fun z=>(hch c z).2.2.1 x c e rfl
    by_cases hc:c∈X.fs
    · obtain ⟨sl,q⟩:=slot c o (I.cne x c e) hc nch ho (I.freeC x c e)
      exact ⟨_,q,hd⟩
    · exact ⟨o,keep c o (I.cne x c e) hc nch ho (I.freeC x c e),hd⟩
  refine ⟨I.ok,I.os,hg,⟨fun b o e n hb hx=>?_,fun b o e n hb hx=>?_,fun b o e n hx=>?_,fun b o e hx=>?_,fun b xs e=>tups b xs (I.base.tups b xs e),fun b o xs e=>frzs b o xs (I.base.frzs b o xs e),fun b ps e=>?_⟩,?_,fun x c e=>?_,?_,fun x c e=>?_,fun p hp=>?_,hok,I.len⟩
  · exact keep b o (neL b o e) hb (neC b o e hx) (I.base.keep b o e n hb hx) (I.base.free b o e n hx)
  · obtain ⟨sl,e1⟩:=I.base.slot b o e n hb hx
    obtain ⟨sl',e2⟩:=slot b _ (neL b o e) hb (neC b o e hx) e1 (I.base.free b o e n hx)
    exact ⟨sl',e2⟩
  · obtain ⟨o',e1⟩:=I.base.there b o e hx
    exact free b o' (neC b o e hx) e1 (I.base.free b o e n hx)
  · obtain ⟨o',e1⟩:=I.base.there b o e hx
    exact there b o' (neC b o e hx) e1
  · obtain ⟨m1,e1⟩:=I.base.tbls b ps e
    obtain ⟨m2,e2⟩:=tbls b _ e1
    exact ⟨m1++m2,by rw [e2,Array.append_assoc]⟩
  · obtain ⟨m,hn,hl⟩:=I.loc
    refine ⟨m,ns m hn,fun i x v e1 e2 e3=>?_⟩
    obtain ⟨u,r,l⟩:=hl i x v e1 e2 e3
    refine ⟨u,r,?_⟩
    rcases l with l | ⟨k,c,e,z⟩
    · exact .inl l
    · exact .inr ⟨k,c,e,cellK x c e _ z⟩
  · obtain ⟨v,z⟩:=I.cell x c e
    exact ⟨v,cellK x c e v z⟩
  · obtain ⟨m,⟨o,_,_,ho,_⟩,_⟩:=I.loc
    exact free _ o (fun z=>(hch _ z).2.1 rfl) ho I.free
  · obtain ⟨v,o,ho,hd⟩:=I.cell x c e
    exact free c o (fun z=>(hch c z).2.2.1 x c e rfl) ho (I.freeC x c e)
  · obtain ⟨e,n,ne,nf,d⟩:=I.pin p hp
    have nch:p.1∉ch:=fun z=>(hch p.1 z).2.2.2 p hp rfl
    exact ⟨keep p.1 p.2 ne nf nch e n,free p.1 p.2 nch e n,ne,nf,d⟩
theorem Inv.un {t':Nat}(I:Inv X pins σ H s)(u:Un X.fs [] H H' s.heap h')(hok:HOk X.prog X.w H' h'):Inv X pins σ H' { s with heap:=h',toks:=t' }:=by
  obtain ⟨m,⟨o,es,ep,ho,r⟩,_⟩:=id I.loc
  obtain ⟨sl,hL⟩:=u.any ho I.free (by simp)
  exact I.step (g':=s.gens) (d':=s.drawn) (ch:=[]) (fun _ z=>nomatch z) (fun b o _ hb _ e n=>u.keep b o e n hb (by simp)) (fun b o _ hb _ e n=>u.slot b o e n hb (by simp)) (fun b o _ e n=>u.free b o e n (by simp)) (fun b o _ e=>u.there b o e (by simp)) u.tups u.frzs u.tbls (fun m' hm=>by
    obtain ⟨o',es',ep',ho',r'⟩:=hm
    rw [ho] at ho';cases ho'
    exact ⟨_,es',ep',hL,r'⟩) hok I.bare
theorem Inv.call {g':Array GenState}{t':Nat}{d':Drawn}{ch:List Addr}(I:Inv X pins σ H s)(u:Un (frs X.stack) ch H H' s.heap h')(hok:HOk X.prog X.w H' h')(hg:AllBare g')
    (hch:∀ b∈ch,(b∈X.ex∨X.s₀.heap.objs.size≤b)∧b≠X.env.locals∧(∀ x c,X.env.cells.lookup x=some c→c≠b)∧∀ p∈X.pn++pins,p.1≠b) :
    Inv X pins σ H' { s with heap:=h',gens:=g',drawn:=d',toks:=t' }:=by
  obtain ⟨m,⟨o,es,ep,ho,r⟩,_⟩:=id I.loc
  obtain ⟨sl,hL⟩:=u.any ho I.free fun z=>(hch _ z).2.1 rfl
  exact I.step (ch:=ch) hch (fun b o hL hb hc e n=>u.keep b o e n (fun z=>(List.mem_cons.mp (I.stkSub b z)).elim hL hb) hc) (fun b o _ _ hc e n=>u.any e n hc) (fun b o hc e n=>u.free b o e n hc) (fun b o hc e=>u.there b o e hc) u.tups u.frzs u.tbls (fun m' hm=>by
    obtain ⟨o',es',ep',ho',r'⟩:=hm
    rw [ho] at ho';cases ho'
    exact ⟨_,es',ep',hL,r'⟩) hok hg
theorem Inv.turned {t':Nat}{it:Addr}(I:Inv X pins σ H s)(k:∀ b o,b≠it→s.heap.get? b=some o→h'.get? b=some o)(hn:H it=none)(hL:it≠X.env.locals)
    (h1:it∈X.ex∨X.s₀.heap.objs.size≤it) (h2:∀ x c,X.env.cells.lookup x=some c→c≠it) (h3:∀ p∈X.pn++pins,p.1≠it):Inv X pins σ H { s with heap:=h',toks:=t' }:=by
  have nit:∀ b u,H b=some u→b≠it:=fun b u e z=>by rw [z,hn] at e;cases e
  refine I.step (g':=s.gens) (d':=s.drawn) (ch:=[it]) (fun b hb=>?_) (fun b o _ _ hc e _=>k b o (fun z=>hc (by simp [z])) e) (fun b o _ _ hc e _=>⟨o.slots,k b o (fun z=>hc (by simp [z])) e⟩) (fun _ _ _ _ n=>n)
    (fun b o hc e=>⟨o,k b o (fun z=>hc (by simp [z])) e⟩) (fun _ _ e=>e) (fun _ _ _ e=>e) (fun b ps e=>⟨#[],by rw [e];simp⟩) (fun m hm=>?_) (fun b u e=>?_) I.bare
  · have e:b=it:=by simpa using hb
    subst e
    exact ⟨h1,hL,h2,h3⟩
  · obtain ⟨o,es,ep,ho,r⟩:=hm
    exact ⟨o,es,ep,k _ o (Ne.symm hL) ho,r⟩
  · refine (I.hok b u e).stay (fun c v hc q=>k c v ?_ q) (fun _ q=>q) fun _ _ q=>q
    rcases hc with z | z
    · rw [z];exact nit b u e
    · exact nit c _ z
theorem Inv.tok (I:Inv X pins σ H s)(t:Nat):Inv X pins σ H { s with toks:=t }:=I.un (h':=s.heap) (t':=t) Un.refl I.hok
theorem Inv.kept {t':Nat}(I:Inv X pins σ H s)(k:∀ b u,s.heap.get? b=some u→h'.get? b=some u):Inv X pins σ H { s with heap:=h',toks:=t' }:=I.un (Un.kept k) (I.hok.kept k)
theorem Inv.laid {a:Addr}{o:HO}{t':Nat}(I:Inv X pins σ H s)(k:∀ b u,s.heap.get? b=some u→h'.get? b=some u)(hp:s.heap.objs.size≤a)(new:ObjOk X.prog X.w (upd H a o) h' a o) :
    Inv X pins σ (upd H a o) { s with heap:=h',toks:=t' }:=I.un (Un.laid k hp (I.hok.fresh hp)) (I.hok.laid k hp new)
theorem Inv.write {x e:Addr}{o:HO}{t':Nat}(I:Inv X pins σ H s)(mu:Mut (H x))(he:e=x∨H e=some (.own x))(k:∀ b u,b≠e→s.heap.get? b=some u→h'.get? b=some u)(heo:∃ u,h'.get? e=some u)
    (new:ObjOk X.prog X.w (upd H x o) h' x o):Inv X pins σ (upd H x o) { s with heap:=h',toks:=t' }:=I.un (Un.write mu he k heo) (I.hok.write mu he k heo new)
theorem Inv.weak {σ':List (Option V)}(I:Inv X pins σ H s)(hl:σ'.length=σ.length)(w:∀ (i:Nat) v,σ'[i]?=some (some v)→σ[i]?=some (some v)):Inv X pins σ' H s :=
  ⟨I.ok,I.os,I.bare,I.base,let ⟨m,hn,hl'⟩:=I.loc;⟨m,hn,fun i x v e1 e2 e3=>hl' i x v e1 (w i v e2) e3⟩,I.cell,I.free,I.freeC,I.pin,I.hok,hl.trans I.len⟩
theorem Inv.pins_of {pins':List (Addr × Obj)}(I:Inv X pins σ H s)(h:∀ p∈pins',s.heap.get? p.1=some p.2∧H p.1=none∧p.1≠X.env.locals∧p.1∉X.fs∧∀ v,p.2.data≠.cell v):Inv X pins' σ H s :=
  ⟨I.ok,I.os,I.bare,I.base,I.loc,I.cell,I.free,I.freeC,fun p hp=>(List.mem_append.mp hp).elim (fun z=>I.pin p (List.mem_append_left _ z)) (h p),I.hok,I.len⟩
theorem nodup_ix {N:List Str}(hN:N.Nodup){i j:Nat}{x:Str}(a:N[i]?=some x)(b:N[j]?=some x):i=j:=by
  obtain ⟨h1,e1⟩:=List.getElem?_eq_some_iff.mp a
  obtain ⟨h2,e2⟩:=List.getElem?_eq_some_iff.mp b
  exact (List.getElem_inj hN).mp (e1.trans e2.symm)
theorem store_ok2 {M:Model} {A:Around} {E:Value→Shared→Prop} {i:Nat} {x:Str} {v:V} {u:Value} {Q:Unit→Shared→Prop} (I:Inv X pins σ H s) (hN:X.N.Nodup) (hi:X.N[i]?=some x) (hx:Loc X.env.scope x) (r:RelV v u)
    (h:∀ s',Inv X pins (σ.set i (some v)) H s'→(∃ a,Heap.SameBut a s.heap s'.heap∧(a=X.env.locals∨X.env.cells.lookup x=some a))→Q () s') (hf:X.fn x=true∨X.env.scope.names.lookup x=some .local:=by first | exact .inl rfl | exact .inr rfl | assumption):wpAny M A (storeName X.env x u) Q E s:=by
  obtain ⟨m,hn,hl⟩:=id I.loc
  have hcls:(X.env.scope.kind==.class||(X.env.scope.kind==.module&&X.env.locals != X.env.globals))=false:=by rw [I.ok.kind];rfl
  have hiσ:i<σ.length:=by rw [I.len];exact (List.getElem?_eq_some_iff.mp hi).1
  have cne:=I.cne
  have tracked:∀ {a:Addr} {h':Heap},(∃ o,s.heap.get? a=some o∧H a=none)→Heap.SameBut a s.heap h'→HOk X.prog X.w H h':=fun {a h'} ha hs b ob e=>by
    obtain ⟨_,_,hfree⟩:=ha
    refine (I.hok b ob e).stay (fun c w' hc q=>(hs.2 c ?_).trans q) (fun _ q=>q) fun _ _ q=>q
    rintro rfl
    rcases hc with rfl | hc
    · rw [hfree] at e;cases e
    · rw [hfree] at hc;cases hc
  rcases hx with hk | hk
  · refine wpAny_storeName_local hk hn (fun h' hn' hs=>?_) hcls
    obtain ⟨oL,_,_,hoL,_⟩:=id hn
    refine h _ ⟨I.ok,I.os,I.bare,⟨fun b o e n hb hx=>?_,fun b o e n hb hx=>?_,I.base.free,fun b o e hx=>?_,I.base.tups,I.base.frzs,I.base.tbls⟩,⟨_,hn',fun j y v' e1 e2 e3=>?_⟩,fun y c e=>?_,I.free,I.freeC,fun p hp=>?_,tracked ⟨oL,hoL,I.free⟩ hs,by simpa using I.len⟩ ⟨_,hs,.inl rfl⟩
    · exact (hs.2 b (Nat.ne_of_lt (Nat.lt_of_lt_of_le (Heap.lt_size e) I.ok.above))).trans (I.base.keep b o e n hb hx)
    · obtain ⟨sl,e1⟩:=I.base.slot b o e n hb hx
      exact ⟨sl,(hs.2 b (Nat.ne_of_lt (Nat.lt_of_lt_of_le (Heap.lt_size e) I.ok.above))).trans e1⟩
    · obtain ⟨o',e1⟩:=I.base.there b o e hx
      exact ⟨o',(hs.2 b (Nat.ne_of_lt (Nat.lt_of_lt_of_le (Heap.lt_size e) I.ok.above))).trans e1⟩
    · by_cases hj:j=i
      · subst hj
        rw [hi] at e1;cases e1
        rw [List.getElem?_set_self hiσ] at e2
        cases e2
        exact ⟨u,r,.inl ⟨hk,by simp⟩⟩
      · rw [List.getElem?_set_ne (Ne.symm hj)] at e2
        obtain ⟨u',r',q⟩:=hl j y v' e1 e2 e3
        refine ⟨u',r',?_⟩
        rcases q with ⟨k,e⟩ | ⟨k,c,e,z⟩
        · refine .inl ⟨k,?_⟩
          have:y≠x:=fun e=>hj (nodup_ix hN e1 (e ▸ hi))
          simp [this,e]
        · exact .inr ⟨k,c,e,z.sameBut hs (cne y c e)⟩
    · obtain ⟨w',z⟩:=I.cell y c e
      exact ⟨w',z.sameBut hs (cne y c e)⟩
    · obtain ⟨e,n,ne,nf,d⟩:=I.pin p hp
      exact ⟨(hs.2 p.1 ne).trans e,n,ne,nf,d⟩
  · have hfn:X.fn x=true:=by
      rcases hf with z | z
      · exact z
      · rw [z] at hk;cases hk
    obtain ⟨c,hc⟩:=I.ok.has x (.inl hk)
    obtain ⟨w',z⟩:=I.cell x c hc
    refine wpAny_storeName_cell I.ok.kind hk hc z (fun h' hc' hs=>?_)
    obtain ⟨oc,hoc,hocd⟩:=id z
    refine h { s with heap:=h' } ⟨I.ok,I.os,I.bare,⟨fun b o e n hb hx=>?_,fun b o e n hb hx=>?_,I.base.free,fun b o e hx=>?_,I.base.tups,I.base.frzs,I.base.tbls⟩,⟨m,hn.sameBut hs (Ne.symm (cne x c hc)),fun j y v' e1 e2 e3=>?_⟩,fun y c' e=>?_,I.free,I.freeC,fun p hp=>?_,tracked ⟨oc,hoc,I.freeC x c hc⟩ hs,by simpa using I.len⟩ ⟨c,hs,.inr hc⟩
    · exact (hs.2 b (Nat.ne_of_lt (Nat.lt_of_lt_of_le (Heap.lt_size e) (I.ok.cab x c hfn hc)))).trans (I.base.keep b o e n hb hx)
    · obtain ⟨sl,e1⟩:=I.base.slot b o e n hb hx
      exact ⟨sl,(hs.2 b (Nat.ne_of_lt (Nat.lt_of_lt_of_le (Heap.lt_size e) (I.ok.cab x c hfn hc)))).trans e1⟩
    · obtain ⟨o',e1⟩:=I.base.there b o e hx
      exact ⟨o',(hs.2 b (Nat.ne_of_lt (Nat.lt_of_lt_of_le (Heap.lt_size e) (I.ok.cab x c hfn hc)))).trans e1⟩
    · by_cases hj:j=i
      · subst hj
        rw [hi] at e1;cases e1
        rw [List.getElem?_set_self hiσ] at e2
        cases e2
        exact ⟨u,r,.inr ⟨.inl hk,c,hc,hc'⟩⟩
      · rw [List.getElem?_set_ne (Ne.symm hj)] at e2
        obtain ⟨u',r',q⟩:=hl j y v' e1 e2 e3
        refine ⟨u',r',?_⟩
        rcases q with q | ⟨k,c',e,z'⟩
        · exact .inl q
        · refine .inr ⟨k,c',e,z'.sameBut hs ?_⟩
          rintro rfl
          exact hj (nodup_ix hN e1 (I.ok.inj _ _ _ e hc ▸ hi))
    · by_cases hcc:c'=c
      · subst hcc;exact ⟨_,hc'⟩
      · obtain ⟨w2,z2⟩:=I.cell y c' e
        exact ⟨w2,z2.sameBut hs hcc⟩
    · obtain ⟨e,n,ne,nf,d⟩:=I.pin p hp
      refine ⟨(hs.2 p.1 ?_).trans e,n,ne,nf,d⟩
      intro q
      rw [q,hoc] at e
      have q':oc=p.2:=Option.some.inj e
      exact d w' (by rw [← q'];exact hocd)
theorem store_ok {M:Model}{A:Around}{E:Value→Shared→Prop}{i:Nat}{x:Str}{v:V}{u:Value}{Q:Unit→Shared→Prop}(I:Inv X pins σ H s)(hN:X.N.Nodup)(hi:X.N[i]?=some x)(hx:Loc X.env.scope x)(r:RelV v u)
    (h:∀ s',Inv X pins (σ.set i (some v)) H s'→Q () s') (hf:X.fn x=true∨X.env.scope.names.lookup x=some .local:=by first | exact .inl rfl | exact .inr rfl | assumption):wpAny M A (storeName X.env x u) Q E s :=
  store_ok2 I hN hi hx r (fun s' I' _=>h s' I') hf
theorem Inv.call' {s':Shared}{ch:List Addr}(I:Inv X pins σ H s)(ho:s'.os=s.os)(u:Un (frs X.stack) ch H H' s.heap s'.heap)(hok:HOk X.prog X.w H' s'.heap)(hg:AllBare s'.gens)
    (hch:∀ b∈ch,(b∈X.ex∨X.s₀.heap.objs.size≤b)∧b≠X.env.locals∧(∀ x c,X.env.cells.lookup x=some c→c≠b)∧∀ p∈X.pn++pins,p.1≠b):Inv X pins σ H' s':=by
  obtain ⟨h',g',d',t',o'⟩:=s'
  have e:o'=s.os:=ho
  subst e
  exact I.call (g':=g') (t':=t') (d':=d') u hok hg hch
end
abbrev XK:=Value→Option Addr→Hp→Prop
abbrev St:=List (Option V)
abbrev VK:=V→Hp→Prop
abbrev TE:=St→Hp→VK→Prop
abbrev TT:=St→Hp→(Bool→Hp→Prop)→Prop
abbrev TA:=St→Hp→(List V→Hp→Prop)→Prop
structure Ends where
  nx:St→Hp→Prop
  rt:VK
  bk:St→Hp→Prop:=fun _ _=>False
  ct:St→Hp→Prop:=fun _ _=>False
abbrev TS:=Ends→St→Hp→Prop
def EP (X:Cx)(pins:List (Addr × Obj))(σ:St)(Q:VK)(u:Value)(s':Shared):Prop:=∃ v H',Inv X pins σ H' s'∧RelV v u∧Q v H'
def TP (X:Cx)(pins:List (Addr × Obj))(σ:St)(Q:Bool→Hp→Prop)(b:Bool)(s':Shared):Prop:=∃ H',Inv X pins σ H' s'∧Q b H'
def AP (X:Cx)(pins:List (Addr × Obj))(σ:St)(Q:List V→Hp→Prop)(us:List Value)(s':Shared):Prop:=∃ vs H',Inv X pins σ H' s'∧Vals vs us∧Q vs H'
def SP (X:Cx)(pins:List (Addr × Obj))(D:Ends)(f:Flow)(s':Shared):Prop :=
  match f with
  | .next=>∃ σ' H',Inv X pins σ' H' s'∧D.nx σ' H'
  | .brk=>∃ σ' H',Inv X pins σ' H' s'∧D.bk σ' H'
  | .cont=>∃ σ' H',Inv X pins σ' H' s'∧D.ct σ' H'
  | .ret u=>∃ v σ' H',Inv X pins σ' H' s'∧RelV v u∧D.rt v H'
def PE (X:Cx)(e:Expr)(t:TE):Prop :=
  ∀ (pins:List (Addr × Obj)) (s:Shared) (σ:St) (H:Hp) (Q:VK),Inv X pins σ H s→t σ H Q→wpAny (model X.prog X.w) X.A (eval e X.env) (EP X pins σ Q) X.xe s
def PT (X:Cx)(e:Expr)(t:TT):Prop :=
  ∀ (pins:List (Addr × Obj)) (s:Shared) (σ:St) (H:Hp) (Q:Bool→Hp→Prop),Inv X pins σ H s→t σ H Q→wpAny (model X.prog X.w) X.A (isTrue e X.env (eval e X.env)) (TP X pins σ Q) X.xe s
def PW (X:Cx)(e:Expr)(t:TT):Prop :=
  ∀ (whole:Sem Value) (pins:List (Addr × Obj)) (s:Shared) (σ:St) (H:Hp) (Q:Bool→Hp→Prop),Inv X pins σ H s→t σ H Q→wpAny (model X.prog X.w) X.A (isTrue e X.env whole) (TP X pins σ Q) X.xe s
theorem PW.pt {X:Cx}{e:Expr}{t:TT}(h:PW X e t):PT X e t:=h _
def PA (X:Cx)(es:List Expr)(t:TA):Prop :=
  ∀ (pos:Pos) (pins:List (Addr × Obj)) (s:Shared) (σ:St) (H:Hp) (Q:List V→Hp→Prop),Inv X pins σ H s→t σ H Q→wpAny (model X.prog X.w) X.A (spliced (backTo pos (starEach es X.env))) (AP X pins σ Q) X.xe s
def PS (X:Cx)(st:Stmt)(t:TS):Prop :=
  ∀ (pins:List (Addr × Obj)) (s:Shared) (σ:St) (H:Hp) (D:Ends),Inv X pins σ H s→t D σ H→wpAny (model X.prog X.w) X.A (exec st X.env) (SP X pins D) X.xe s
def PSs (X:Cx)(st:List Stmt)(t:TS):Prop :=
  ∀ (pins:List (Addr × Obj)) (s:Shared) (σ:St) (H:Hp) (D:Ends),Inv X pins σ H s→t D σ H→wpAny (model X.prog X.w) X.A (execs st X.env) (SP X pins D) X.xe s
theorem thn {α:Type}{t:Sem α}{Q Q':α→Shared→Prop}{M:Model}{A:Around}{E:Value→Shared→Prop}{s:Shared}(h:wpAny M A t Q E s)(hQ:∀ a s,Q a s→Q' a s):wpAny M A t Q' E s:=wpAny_mono h hQ fun _ _ x=>x
end L2
namespace L2
open PySem PySem.Spec PyProof.Rows
section
variable {X:Cx}
def tVar (i:Nat):TE:=fun σ H Q=>∃ v,σ[i]?=some (some v)∧Q v H
def tC (v:V):TE:=fun _ H Q=>Q v H
theorem pe_var {i:Nat}{x:Str}{pos:Pos}(hN:X.N[i]?=some x)(hv:Vis X.env.scope x)(hd:(x==("__debug__":Str))=false:=by decide)(hcd:(x==("__classdict__":Str))=false:=by decide):PE X (.Name x pos) (tVar i):=by
  intro pins s σ H Q I h
  obtain ⟨v,e,h⟩:=h
  obtain ⟨m,hn,hl⟩:=I.loc
  obtain ⟨u,r,l⟩:=hl i x v hN e hv
  have fin:EP X pins σ Q u s:=⟨v,H,I,r,h⟩
  rcases l with ⟨hk,hm⟩ | ⟨hk,c,hc,hcell⟩
  · exact wpAny_Name (wpAny_loadName_local I.ok.kind hk hn hm fin) hd
  · rcases hk with hk | hk
    · exact wpAny_Name (wpAny_loadName_cell I.ok.kind hk hc hcell fin) hd
    · exact wpAny_Name (wpAny_loadName_free I.ok.kind hk hc hcell fin hcd) hd
theorem pe_int {i j pos}:PE X (.Constant (.int i) j pos) (tC (.int i)):=fun _ _ _ H _ I h=>wpAny_Constant_int ⟨.int i,H,I.tok _,⟨_,rfl⟩,h⟩
theorem pe_bl {b j pos}:PE X (.Constant (.bool b) j pos) (tC (.bl b)):=fun _ _ _ H _ I h=>Constant_bool ⟨.bl b,H,I,rfl,h⟩
theorem pe_str {x j pos}:PE X (.Constant (.str x) j pos) (tC (.str x)):=fun _ _ _ H _ I h=>Calls.Constant_str ⟨.str x,H,I.tok _,⟨_,rfl⟩,h⟩
def Gl (X:Cx)(x:Str):Prop:=X.env.kindOf x=some .globalImplicit
theorem ld_glob {E:Value→Shared→Prop}{pins:List (Addr × Obj)}{s:Shared}{σ:St}{H:Hp}{x:Str}{u:Value}{pos:Pos}{Q:Value→Shared→Prop}(I:Inv X pins σ H s)(hg:Gl X x)(hm:X.mg x=some u)(h:Q u s)
    (hd:(x==("__debug__":Str))=false:=by decide):wpAny (model X.prog X.w) X.A (eval (.Name x pos) X.env) Q E s :=
  Calls.Name_function_global I.ok.kind hg (Calls.loadGlobal_global (by rw [I.ok.glob];exact I.mod.glob.keeps I.bk) hm h) hd
theorem ld_blt {E:Value→Shared→Prop}{pins:List (Addr × Obj)}{s:Shared}{σ:St}{H:Hp}{x:Str}{u:Value}{pos:Pos}{Q:Value→Shared→Prop}(I:Inv X pins σ H s)(hg:Gl X x)(hm:X.mg x=none)(hv:bootBuiltins x=some u)(h:Q u s)
    (hn:x≠"__name__":=by decide) (hd:(x==("__debug__":Str))=false:=by decide):wpAny (model X.prog X.w) X.A (eval (.Name x pos) X.env) Q E s:=by
  obtain ⟨mb,h1,h2⟩:=I.mod.blt
  exact Calls.Name_function_global I.ok.kind hg (Calls.loadGlobal_builtin (by rw [I.ok.glob];exact I.mod.glob.keeps I.bk) hm (by rw [I.ok.blt];exact h1.keeps I.bk) ((h2 x hn).trans hv) h) hd
theorem pe_bltn {x:Str}{v:V}{u:Value}{pos:Pos}(hg:Gl X x)(hm:X.mg x=none)(hv:bootBuiltins x=some u)(r:RelV v u)(hn:x≠"__name__":=by decide)(hd:(x==("__debug__":Str))=false:=by decide):PE X (.Name x pos) (tC v) :=
  fun _ _ _ H _ I h=>ld_blt I hg hm hv ⟨v,H,I,r,h⟩ hn hd
variable {a b:Expr}{ta tb:TE}{pos:Pos}
def tB (t:TE):TT:=fun σ H Q=>t σ H fun x H1=>∃ c,x=.bl c∧Q c H1
theorem pt_val {e:Expr}{t:TE}(h:PE X e t)(he:∀ whole,isTrue e X.env whole=(do let v ← whole;standAt e.pos;holding [v] (truthy v)):=by intro _;rfl):PT X e (tB t):=by
  intro pins s σ H Q I hw
  refine isTrue_plain (thn (h pins s σ H _ I hw) fun v s1 ⟨x,H1,I1,r1,q1⟩=>?_) (he _)
  obtain ⟨d,rfl,q⟩:=q1
  cases r1
  exact wpAny_truthy_bool ⟨H1,I1,q⟩
variable {tA tB':TT}{rest:List Expr}
def tAnd (t u:TT):TT:=fun σ H Q=>t σ H fun c H1=>if c=true then u σ H1 Q else Q false H1
def tOr (t u:TT):TT:=fun σ H Q=>t σ H fun c H1=>if c=true then Q true H1 else u σ H1 Q
def tNot (t:TT):TT:=fun σ H Q=>t σ H fun c H1=>Q (!c) H1
theorem pw_and1 (ha:PT X a tA):PW X (.BoolOp .And [a] pos) tA:=by
  intro wh pins s σ H Q I h
  refine isTrue_and (thn (ha pins s σ H Q I h) fun c s1 e=>?_)
  cases c with
  | true=>exact isTrue_and_nil e
  | false=>exact e
theorem pw_or1 (ha:PT X a tA):PW X (.BoolOp .Or [a] pos) tA:=by
  intro wh pins s σ H Q I h
  refine isTrue_or (thn (ha pins s σ H Q I h) fun c s1 e=>?_)
  cases c with
  | false=>exact isTrue_or_nil e
  | true=>exact e
theorem pw_and (ha:PT X a tA)(hb:PW X (.BoolOp .And (b::rest) pos) tB'):PW X (.BoolOp .And (a::b::rest) pos) (tAnd tA tB'):=by
  intro wh pins s σ H Q I h
  refine isTrue_and (thn (ha pins s σ H _ I h) fun c s1 ⟨H1,I1,q1⟩=>?_)
  cases c with
  | true=>exact hb wh pins s1 σ H1 Q I1 q1
  | false=>exact ⟨H1,I1,q1⟩
theorem pw_or (ha:PT X a tA)(hb:PW X (.BoolOp .Or (b::rest) pos) tB'):PW X (.BoolOp .Or (a::b::rest) pos) (tOr tA tB'):=by
  intro wh pins s σ H Q I h
  refine isTrue_or (thn (ha pins s σ H _ I h) fun c s1 ⟨H1,I1,q1⟩=>?_)
  cases c with
  | true=>exact ⟨H1,I1,q1⟩
  | false=>exact hb wh pins s1 σ H1 Q I1 q1
theorem pt_not (ha:PT X a tA):PT X (.UnaryOp .Not a pos) (tNot tA):=by
  intro pins s σ H Q I h
  exact isTrue_not (ha pins s σ H (fun c H1=>Q (!c) H1) I h)
def tNotV (ta:TE):TE:=fun σ H Q=>ta σ H fun x H1=>∃ c,x=.bl c∧Q (.bl (!c)) H1
theorem pe_not (ha:PE X a ta):PE X (.UnaryOp .Not a pos) (tNotV ta):=by
  intro pins s σ H Q I h
  refine UnaryOp_ (thn (ha pins s σ H _ I h) fun v s1 ⟨x,H1,I1,r1,q1⟩=>?_)
  obtain ⟨c,rfl,q1⟩:=q1
  cases r1
  exact not_of (wpAny_truthy_bool ⟨.bl (!c),H1,I1,rfl,q1⟩)
end
end L2
namespace L2
open PySem PySem.Spec PyProof.Rows
def SqL (K:PySem.W.Frag) (H:Hp) (a:Addr) (xs:List V):Prop :=
  Rd H a (.lst xs) ∨
    ∃ (o:Obj) (its:Array Value) (n:Nat),K.lookup a=some o∧o.cls=.type "list"∧o.dict=none∧o.data=.seq its n∧its.size≤sizeLine∧Vals xs its.toList
def SqT (K:PySem.W.Frag) (H:Hp) (a:Addr) (xs:List V):Prop :=
  Rd H a (.tup xs) ∨
    ∃ (o:Obj) (its:Array Value) (n:Nat),K.lookup a=some o∧o.cls=.type "tuple"∧o.data=.seq its n∧its.size≤sizeLine∧Vals xs its.toList
def absV:Value→Option V
  | .none=>some .non
  | .bool b=>some (.bl b)
  | .int i _=>some (.int i)
  | .str x _=>some (.str x)
  | .bytes b _=>some (.byt b)
  | .float b _=>some (.flt b)
  | .ref a=>some (.ref a)
  | .type n=>some (.ty n)
  | _=>none
theorem RelV.abs {x:V}{u:Value}(r:RelV x u):absV u=some x:=by
  cases x with
  | non=>cases r;rfl
  | bl _=>cases r;rfl
  | int _=>obtain ⟨t,rfl⟩:=r;rfl
  | str _=>obtain ⟨t,rfl⟩:=r;rfl
  | byt _=>obtain ⟨t,rfl⟩:=r;rfl
  | flt _=>obtain ⟨t,rfl⟩:=r;rfl
  | ref _=>cases r;rfl
  | ty _=>cases r;rfl
theorem RelV.inj {x y:V}{u:Value}(r:RelV x u)(q:RelV y u):x=y:=Option.some.inj (r.abs.symm.trans q.abs)
theorem Vals.inj:∀ {xs ys:List V} {us:List Value},Vals xs us→Vals ys us→xs=ys
  | _,_,_,.nil,.nil=>rfl
  | _,_,_,.cons r t,.cons r' t'=>by rw [r.inj r',Vals.inj t t']
section
variable {X:Cx}{pins:List (Addr × Obj)}{σ:St}{H:Hp}{s:Shared}{a:Addr}{xs ys:List V}
theorem SqL.of {K:PySem.W.Frag}(h:H a=some (.lst xs)):SqL K H a xs:=.inl (.inl h)
theorem Inv.list (I:Inv X pins σ H s)(h:SqL X.K H a xs):∃ its:List Value,Vals xs its∧PlainL s.heap a its.toArray∧xs.length≤sizeLine:=by
  rcases h with h | ⟨o,its,n,hk,hc,hd,hs,hz,r⟩
  · obtain ⟨z,its,n,r,e⟩:=h.ok I.hok
    exact ⟨its,r,⟨_,n,e,rfl,rfl,rfl⟩,z⟩
  · refine ⟨its.toList,r,⟨o,n,I.kIn a o hk,hc,hd,by simpa using hs⟩,?_⟩
    have e:=r.length
    simp only [Array.length_toList] at e
    omega
theorem Inv.tuple (I:Inv X pins σ H s)(h:SqT X.K H a xs):∃ its:List Value,Vals xs its∧IsTup s.heap a its.toArray∧xs.length≤sizeLine:=by
  rcases h with h | ⟨o,its,n,hk,hc,hs,hz,r⟩
  · obtain ⟨z,its,r,p⟩:=h.ok I.hok
    exact ⟨its,r,p,z⟩
  · refine ⟨its.toList,r,⟨o,I.kIn a o hk,hc,n,by simpa using hs⟩,?_⟩
    have e:=r.length
    simp only [Array.length_toList] at e
    omega
theorem Inv.list_inj (I:Inv X pins σ H s)(h:SqL X.K H a xs)(h':SqL X.K H a ys):xs=ys:=by
  obtain ⟨its,r,⟨o,n,e,_,_,d⟩,_⟩:=I.list h
  obtain ⟨its',r',⟨o',n',e',_,_,d'⟩,_⟩:=I.list h'
  rw [e] at e';cases e'
  rw [d] at d'
  injection d' with d1 _
  have:its=its':=by simpa using congrArg Array.toList d1
  subst this
  exact r.inj r'
end
abbrev Cx.wish (X:Cx)(E:Value→Shared→Prop):Cx:={ X with xe:=E }
abbrev Cx.nox (X:Cx):Cx:=X.wish fun _ _=>False
theorem Cx.Ok.wish {X:Cx}(ok:X.Ok)(E:Value→Shared→Prop):(X.wish E).Ok :=
  ⟨ok.mod,ok.kind,ok.glob,ok.blt,ok.above,ok.inj,ok.has,ok.cab,ok.hd,ok.frames,ok.stk,ok.exf,ok.bs,ok.bsz,ok.noex,ok.exfs,ok.funs,ok.frf⟩
theorem Cx.Ok.unwish {X:Cx}{E:Value→Shared→Prop}(ok:(X.wish E).Ok):X.Ok :=
  ⟨ok.mod,ok.kind,ok.glob,ok.blt,ok.above,ok.inj,ok.has,ok.cab,ok.hd,ok.frames,ok.stk,ok.exf,ok.bs,ok.bsz,ok.noex,ok.exfs,ok.funs,ok.frf⟩
section
variable {X:Cx}{pins:List (Addr × Obj)}{σ:St}{H:Hp}{s:Shared}{E:Value→Shared→Prop}
theorem Inv.wish (I:Inv X pins σ H s)(E:Value→Shared→Prop):Inv (X.wish E) pins σ H s:=⟨I.ok.wish E,I.os,I.bare,I.base,I.loc,I.cell,I.free,I.freeC,I.pin,I.hok,I.len⟩
theorem Inv.unwish (I:Inv (X.wish E) pins σ H s):Inv X pins σ H s:=⟨I.ok.unwish,I.os,I.bare,I.base,I.loc,I.cell,I.free,I.freeC,I.pin,I.hok,I.len⟩
theorem SP.unwish {D:Ends}{f:Flow}{s':Shared}(h:SP (X.wish E) pins D f s'):SP X pins D f s':=by
  cases f with
  | next=>obtain ⟨σ',H',I,q⟩:=h;exact ⟨σ',H',I.unwish,q⟩
  | brk=>obtain ⟨σ',H',I,q⟩:=h;exact ⟨σ',H',I.unwish,q⟩
  | cont=>obtain ⟨σ',H',I,q⟩:=h;exact ⟨σ',H',I.unwish,q⟩
  | ret u=>obtain ⟨v,σ',H',I,r,q⟩:=h;exact ⟨v,σ',H',I.unwish,r,q⟩
theorem PSs.nox {st:List Stmt}{t:TS}(h:PSs X.nox st t):PSs X st t:=fun pins s σ H D I hw =>
  wpAny_mono (h pins s σ H D (I.wish _) hw) (fun _ _ q=>q.unwish) fun _ _ z=>False.elim z
end
section
variable {X:Cx}{st:Stmt}{rest:List Stmt}{t u:TS}{e:Expr}{te:TE}{pos:Pos}
def tNext:TS:=fun D σ H=>D.nx σ H
def tSeq (t u:TS):TS:=fun D σ H=>t { D with nx:=u D } σ H
theorem pss_nil:PSs X [] tNext:=fun _ _ σ H _ I h=>wpAny_execs_nil ⟨σ,H,I,h⟩
theorem pss_cons (h1:PS X st t)(h2:PSs X rest u):PSs X (st::rest) (tSeq t u):=by
  intro pins s σ H D I h
  refine wpAny_execs_cons (thn (h1 pins s σ H { D with nx:=u D } I h) fun f s1 q=>?_)
  cases f with
  | next =>
    obtain ⟨σ',H',I',q⟩:=q
    exact h2 pins s1 σ' H' D I' q
  | ret v=>exact q
  | brk=>exact q
  | cont=>exact q
theorem pss_one (h1:PS X st t):PSs X [st] t:=by
  intro pins s σ H D I h
  refine wpAny_execs_cons (thn (h1 pins s σ H D I h) fun f s1 q=>?_)
  cases f with
  | next=>exact wpAny_execs_nil q
  | ret v=>exact q
  | brk=>exact q
  | cont=>exact q
theorem Inv.quiet {pins:List (Addr × Obj)}{σ:St}{H:Hp}{s:Shared}(I:Inv X pins σ H s):interactive X.env=false:=by simp [interactive,I.ok.kind]
def tDrop (te:TE):TS:=fun D σ H=>te σ H fun _ H1=>D.nx σ H1
theorem ps_expr (he:PE X e te)(hs:swapsWith e none pos.line X.env=pure false:=by rfl):PS X (.Expr e pos) (tDrop te):=by
  intro pins s σ H D I h
  exact wpAny_Expr_any (thn (he pins s σ H _ I h) fun v s1 ⟨x,H1,I1,r1,q1⟩=>⟨σ,H1,I1,q1⟩) I.quiet hs
def tRet (te:TE):TS:=fun D σ H=>te σ H D.rt
theorem ps_ret (he:PE X e te):PS X (.Return (some e) pos) (tRet te):=by
  intro pins s σ H D I h
  exact wpAny_Return_some (thn (he pins s σ H _ I h) fun v s1 ⟨x,H1,I1,r1,q1⟩=>⟨x,σ,H1,I1,r1,q1⟩)
def tIfS (c:TT)(t u:TS):TS:=fun D σ H=>c σ H fun b H1=>if b=true then t D σ H1 else u D σ H1
theorem ps_if {c:Expr}{a b:List Stmt}{tc:TT}(hc:PT X c tc)(ha:PSs X a t)(hb:PSs X b u):PS X (.If c a b pos) (tIfS tc t u):=by
  intro pins s σ H D I h
  refine wpAny_If (thn (hc pins s σ H _ I h) fun d s1 ⟨H1,I1,q1⟩=>?_)
  cases d with
  | true=>exact ha pins s1 σ H1 D I1 q1
  | false=>exact hb pins s1 σ H1 D I1 q1
end
abbrev TG:=V→St→Hp→(St→Hp→Prop)→Prop
def PG (X:Cx) (target:Expr) (t:TG):Prop :=
  ∀ (pins:List (Addr × Obj)) (s:Shared) (σ:St) (H:Hp) (v:V) (u:Value) (Q:St→Hp→Prop),Inv X pins σ H s→RelV v u→t v σ H Q →
    wpAny (model X.prog X.w) X.A (assign target X.env u) (fun _ s'=>∃ σ' H',Inv X pins σ' H' s'∧Q σ' H') X.xe s
section
variable {X:Cx}{pos:Pos}
def gName (i:Nat):TG:=fun v σ H Q=>Q (σ.set i (some v)) H
theorem pg_name {i:Nat}{x:Str}(hN:X.N.Nodup)(hi:X.N[i]?=some x)(hx:Loc X.env.scope x)(hf:X.fn x=true∨X.env.scope.names.lookup x=some .local:=by first | exact .inl rfl | exact .inr rfl | assumption):PG X (.Name x pos) (gName i):=by
  intro pins s σ H v u Q I r h
  exact wpAny_assign_Name (store_ok I hN hi hx r (fun s' I'=>⟨_,H,I',h⟩) hf)
def tAsg (te:TE)(g:TG):TS:=fun D σ H=>te σ H fun x H1=>g x σ H1 D.nx
theorem ps_set {i:Nat}{x:Str}{e:Expr}{te:TE}{pos':Pos}(hN:X.N.Nodup)(hi:X.N[i]?=some x)(hx:Loc X.env.scope x)(he:PE X e te)(hs:swapsWith e (some (.Name x pos')) pos.line X.env=pure false:=by rfl)(hf:X.fn x=true∨X.env.scope.names.lookup x=some .local:=by first | exact .inl rfl | exact .inr rfl | assumption) :
    PS X (.Assign [.Name x pos'] e pos) (tAsg te (gName i)):=by
  intro pins s σ H D I h
  refine wpAny_Assign_Name (thn (he pins s σ H _ I h) fun v s1 ⟨y,H1,I1,r1,q1⟩=>?_) hs
  exact store_ok I1 hN hi hx r1 (fun s2 I2=>⟨_,H1,I2,q1⟩) hf
end
section
variable {X:Cx}{pos:Pos}
end
structure It where
  go:Nat→Hp→Prop
  yld:Nat→Hp→V→Hp→Prop
  stop:Nat→Hp→Prop
def FpOk (X:Cx)(pins:List (Addr × Obj))(H:Hp)(b:Addr):Prop :=
  H b=none∧b≠X.env.locals∧b∉X.fs∧(b∈X.ex∨X.s₀.heap.objs.size≤b)∧(∀ x c,X.env.cells.lookup x=some c→c≠b)∧∀ p∈X.pn++pins,p.1≠b
theorem Inv.fpOk {X:Cx}{pins:List (Addr × Obj)}{σ:St}{H H':Hp}{s:Shared}{b:Addr}(I:Inv X pins σ H s)(hb:s.heap.objs.size≤b)(hn:H' b=none):FpOk X pins H' b:=by
  refine ⟨hn,Nat.ne_of_gt (Nat.lt_of_lt_of_le I.lt hb),I.nofs hb,.inr (Nat.le_trans I.sz hb),fun x c e z=>?_,fun p hp z=>?_⟩
  · obtain ⟨v,q⟩:=I.cell x c e
    exact absurd (Nat.lt_of_lt_of_le q.lt (by rw [z];exact hb)) (Nat.lt_irrefl _)
  · exact absurd (Nat.lt_of_lt_of_le (Heap.lt_size (I.pin p hp).1) (by rw [z];exact hb)) (Nat.lt_irrefl _)
structure Turn (P:Program)(w:World)(K:PySem.W.Frag)(tg:Expr)(J:It)(fp:List Addr)(it:Addr)(tn:Nat→Heap→Prop):Prop where
  mem:it∈fp
  obj:∀ i h,tn i h→∀ b∈fp,∃ o,h.get? b=some o∧∀ v,o.data≠.cell v
  keep:∀ i h h',tn i h→(∀ b∈fp,∀ o,h.get? b=some o→h'.get? b=some o)→tn i h'
  item:∀ (X:Cx),X.prog=P→X.w=w→X.K=K→X.calm=true→∀ (i:Nat) (pins:List (Addr × Obj)) (s:Shared) (σ:St) (H:Hp) (E:Value→Shared→Prop),Inv X pins σ H s→(∀ b∈fp,FpOk X pins H b)→tn i s.heap→J.go i H →
    wpAny (model P w) X.A (pyNext (.ref it)) (fun r s1=>∃ u,r=some u ∧
      wpAny (model P w) X.A (letOwnedTupleGo tg (.ref it) u) (fun _ s2=>∃ x H',Inv X pins σ H' s2∧RelV x u∧J.yld i H x H'∧tn (i+1) s2.heap∧∀ b∈fp,H' b=none) E s1) E s
  done:∀ (X:Cx),X.prog=P→X.w=w→X.K=K→X.calm=true→∀ (i:Nat) (pins:List (Addr × Obj)) (s:Shared) (σ:St) (H:Hp) (E:Value→Shared→Prop),Inv X pins σ H s→(∀ b∈fp,FpOk X pins H b)→tn i s.heap→J.stop i H →
    wpAny (model P w) X.A (pyNext (.ref it)) (fun r s1=>r=none∧Inv X pins σ H s1) E s
  self:∀ (A:Around) (i:Nat) (s:Shared) (Q:Value→Shared→Prop) (E:Value→Shared→Prop),tn i s.heap→Q (.ref it) s→wpAny (model P w) A (pyIter (.ref it)) Q E s
abbrev TI:=St→Hp→(It→Hp→Prop)→Prop
def PIE (X:Cx)(pins:List (Addr × Obj))(σ:St)(tg:Expr)(R:It→Hp→Prop)(itv:Value)(s2:Shared):Prop :=
  ∃ (it:Addr) (fp:List Addr) (tn:Nat→Heap→Prop) (J:It) (H':Hp),itv=.ref it∧Inv X pins σ H' s2∧Turn X.prog X.w X.K tg J fp it tn∧tn 0 s2.heap∧(∀ b∈fp,FpOk X pins H' b)∧R J H'
def PI (X:Cx) (tg iter:Expr) (wi:TI):Prop :=
  ∀ (pins:List (Addr × Obj)) (s:Shared) (σ:St) (H:Hp) (R:It→Hp→Prop),Inv X pins σ H s→wi σ H R →
    wpAny (model X.prog X.w) X.A (eval iter X.env) (fun v s1=>wpAny (model X.prog X.w) X.A (pyIter v) (PIE X pins σ tg R) X.xe s1) X.xe s
theorem go_of {M:Model} {A:Around} {E:Value→Shared→Prop} {s:Shared} {tg:Expr} {it:Addr} {u:Value} {o:Obj} {n:String} {vs:Array Value} {Q:Unit→Shared→Prop} (ho:s.heap.get? it=some o) (hc:o.cls=.type n) (hd:o.data=.fields vs)
    (hn:["enumerate","zip","dict_itemiterator","dict_reverseitemiterator","odict_iterator","itertools.zip_longest","itertools.pairwise"].contains n=false) (hQ:Q () s):wpAny M A (letOwnedTupleGo tg (.ref it) u) Q E s:=by
  unfold letOwnedTupleGo
  cases tg <;> first
    | exact wpAny_pure hQ
    | (cases u<;>first
        | exact wpAny_pure hQ
        | (refine wpAny_bind (wpAny_load ho ?_)
           rw [hc,hd]
           show wpAny M A (if (["enumerate","zip","dict_itemiterator","dict_reverseitemiterator","odict_iterator","itertools.zip_longest","itertools.pairwise"].contains n&&vs[0]?==some (rawInt _))=true then _ else _) Q E s
           rw [if_neg (by intro h;rw [hn,Bool.false_and] at h;cases h)]
           exact wpAny_pure hQ))
def Itl (K:PySem.W.Frag)(a:Addr):It :=
  ⟨fun i H=>∃ xs x,SqL K H a xs∧xs[i]?=some x,fun i H x H'=>H'=H∧∀ xs,SqL K H a xs→xs[i]?=some x,fun i H=>∃ xs,SqL K H a xs∧xs.length≤i⟩
def Itr (lo:Int)(n:Nat):It:=⟨fun i _=>i<n,fun i H x H'=>H'=H∧x=.int (lo+i),fun i _=>n≤i⟩
theorem turn_list {P:Program}{w:World}{K:PySem.W.Frag}{tg:Expr}(a it:Addr):Turn P w K tg (Itl K a) [it] it (fun i h=>h.IsListIter it a i) where
  mem:=by simp
  obj:=fun i h st b hb=>by
    have e:b=it:=by simpa using hb
    subst e
    obtain ⟨o,e,c,d⟩:=st
    exact ⟨o,e,fun v z=>by rw [d] at z;cases z⟩
  keep:=fun i h h' st k=>st.at fun o e=>k it (by simp) o e
  item:=by
    intro X hP hw hK hc i pins s σ H E I hf st hg
    subst hP hw hK
    obtain ⟨xs,x,hq,hx⟩:=hg
    obtain ⟨its,rv,p,hz⟩:=I.list hq
    obtain ⟨u,hu,ru⟩:=rv.get hx
    obtain ⟨f0,f1,f2,f3,f4,f5⟩:=hf it (by simp)
    refine wpAny_pyNext_list_item st p.isList (x:=u) (by simpa using hu) fun h' st' sb=>?_
    have I1:Inv X pins σ H { s with heap:=h' }:=I.turned (t':=s.toks) (fun b o hb e=>(sb.2 b hb).trans e) f0 f1 f3 f4 f5
    obtain ⟨o,e,c,d⟩:=id st'
    exact ⟨u,rfl,go_of (s:={ s with heap:=h' }) e c d (by decide) ⟨x,H,I1,ru,⟨rfl,fun ys hy=>by rw [I.list_inj hy hq];exact hx⟩,st',fun b hb=>(hf b hb).1⟩⟩
  done:=by
    intro X hP hw hK hc i pins s σ H E I hf st hg
    subst hP hw hK
    obtain ⟨xs,hq,hx⟩:=hg
    obtain ⟨its,rv,p,hz⟩:=I.list hq
    obtain ⟨f0,f1,f2,f3,f4,f5⟩:=hf it (by simp)
    have hl:=rv.length
    exact wpAny_pyNext_list_end (I.ok.hd hc) st p.isList (by simp;omega) fun h' eb=>⟨rfl,I.turned (t':=s.toks) (fun b o hb e=>eb b o hb e) f0 f1 f3 f4 f5⟩
  self:=fun _ _ _ _ _ st h=>wpAny_pyIter_listiter st h
theorem turn_range {P:Program}{w:World}{K:PySem.W.Frag}{tg:Expr}(it:Addr)(lo:Int)(n:Nat):Turn P w K tg (Itr lo n) [it] it (fun i h=>IsRangeIter h it (lo+(i:Nat)*1) ((n:Int)-(i:Nat)) 1) where
  mem:=by simp
  obj := fun i h st b hb=>by
    have e:b=it:=by simpa using hb
    subst e
    exact ⟨_,st,fun v z=>by
      have z':Data.fields _=Data.cell v:=z
      cases z'⟩
  keep:=fun i h h' st k=>k it (by simp) _ st
  item:=by
    intro X hP hw hK hc i pins s σ H E I hf st hg
    subst hP hw hK
    obtain ⟨f0,f1,f2,f3,f4,f5⟩:=hf it (by simp)
    have W:=Walks.range (prog:=X.prog) (w:=X.w) (I.ok.hd hc) it lo 1 n
    refine W.item i s _ _ hg st fun v h' tk hv st' kk=>?_
    obtain ⟨t,rfl⟩:=hv
    have I1:Inv X pins σ H { s with heap:=h',toks:=tk }:=I.turned (fun b o hb e=>kk b o (by simpa using hb) e) f0 f1 f3 f4 f5
    refine ⟨_,rfl,go_of (s:={ s with heap:=h',toks:=tk }) (n:="range_iterator") st' rfl rfl (by decide) ⟨.int (lo+i),H,I1,⟨t,?_⟩,⟨rfl,rfl⟩,st',fun b hb=>(hf b hb).1⟩⟩
    rw [Int.mul_one]
  done:=by
    intro X hP hw hK hc i pins s σ H E I hf st hg
    subst hP hw hK
    obtain ⟨f0,f1,f2,f3,f4,f5⟩:=hf it (by simp)
    exact wpAny_pyNext_range_end (I.ok.hd hc) st (by have:n≤i:=hg;omega) fun h' eb=>⟨rfl,I.turned (t':=s.toks) (fun b o hb e=>eb b o hb e) f0 f1 f3 f4 f5⟩
  self:=fun _ _ _ _ _ st h=>wpAny_pyIter_rangeiter st h
end L2
namespace L2
open PySem PySem.Spec PyProof.Rows
section
variable {X:Cx}{tg:Expr}
def iList (K:PySem.W.Frag)(tl:TE):TI:=fun σ H R=>tl σ H fun x H1=>∃ a,x=.ref a∧(∃ xs,SqL K H1 a xs)∧R (Itl K a) H1
theorem pi_list {l:Expr}{tl:TE}(hl:PE X l tl):PI X tg l (iList X.K tl):=by
  intro pins s σ H R I h
  refine thn (hl pins s σ H _ I h) fun v s1 ⟨x,H1,I1,r1,q1⟩=>?_
  obtain ⟨a,e,⟨xs,hq⟩,q⟩:=q1
  subst e
  cases r1
  obtain ⟨its,rv,p,hz⟩:=I1.list hq
  refine wpAny_pyIter_list p.isList ?_
  refine ⟨s1.heap.objs.size,[s1.heap.objs.size],_,_,H1,rfl,I1.kept (t':=s1.toks) fun b o e=>Heap.get?_push_of_some _ e,turn_list a _,⟨_,Heap.get?_push_size _ rfl,rfl,rfl⟩,fun b hb=>?_,q⟩
  have e:b=s1.heap.objs.size:=by simpa using hb
  subst e
  exact I1.fpOk (Nat.le_refl _) (I1.hok.fresh (Nat.le_refl _))
theorem range_it {pins:List (Addr × Obj)}{σ:St}{H:Hp}{s:Shared}{R:It→Hp→Prop}{E:Value→Shared→Prop}{lo hi:Int}{t u v:Tok}{tk:Nat}(I:Inv X pins σ H s)(h1:-(2^62)≤lo)(h2:lo<2^62)(h3:-(2^62)≤hi)(h4:hi<2^62)
    (q:R (Itr lo (hi-lo).toNat) H):wpAny (model X.prog X.w) X.A (pyIter (.ref s.heap.objs.size)) (PIE X pins σ tg R) E { s with heap:=s.heap.push { cls:=.type "range",data:=.fields #[.int lo t,.int hi u,.int 1 v] },toks:=tk }:=by
  refine wpAny_pyIter_range (IsRange.new ..) (small_one h1 h2 h3 h4) ?_
  have I1:Inv X pins σ H { s with heap:=s.heap.push { cls:=.type "range",data:=.fields #[.int lo t,.int hi u,.int 1 v] },toks:=tk }:=I.kept fun b o e=>Heap.get?_push_of_some _ e
  refine ⟨(s.heap.push { cls:=.type "range",data:=.fields #[.int lo t,.int hi u,.int 1 v] }).objs.size,[(s.heap.push { cls:=.type "range",data:=.fields #[.int lo t,.int hi u,.int 1 v] }).objs.size],_,_,H,rfl,
    I1.kept (t':=tk) fun b o e=>Heap.get?_push_of_some _ e,turn_range _ lo (hi-lo).toNat,?_,fun b hb=>?_,q⟩
  · have e1:lo+((0:Nat):Int)*1=lo:=by simp
    have e2:(((hi-lo).toNat:Nat):Int)-((0:Nat):Int)=Builtin.Range.rangeSize lo hi 1:=by rw [rangeSize_one];split<;>omega
    show IsRangeIter _ _ (lo+((0:Nat):Int)*1) ((((hi-lo).toNat:Nat):Int)-((0:Nat):Int)) 1
    rw [e1,e2]
    exact Heap.get?_push_size _ rfl
  · have e:b=(s.heap.push { cls:=.type "range",data:=.fields #[.int lo t,.int hi u,.int 1 v] }).objs.size:=by simpa using hb
    subst e
    exact I1.fpOk (Nat.le_refl _) (I1.hok.fresh (Nat.le_refl _))
def iRng1 (ta:TA):TI:=fun σ H R=>ta σ H fun vs H1=>∃ j:Int,vs=[.int j]∧-(2^62)≤j∧j<2^62∧R (Itr 0 j.toNat) H1
theorem pi_range1 {a:Expr}{ta:TA}{p pos:Pos}(hg:Gl X "range")(hm:X.mg "range"=none)(ha:PA X [a] ta)(hs:starEach [a] X.env=[(false,eval a X.env)]:=by rfl):PI X tg (.Call (.Name "range" p) [a] [] pos) (iRng1 ta):=by
  intro pins s σ H R I h
  refine Call_ (ld_blt I hg hm boot_range (PyProof.Rows.callWith_type1 (thn (ha pos pins s σ H _ I h) fun us s1 ⟨vs,H1,I1,r1,q1⟩=>?_) hs rfl))
  obtain ⟨j,e,q1,q2,q⟩:=q1
  subst e
  cases r1 with
  | cons r rr =>
    cases rr
    obtain ⟨t,rfl⟩:=r
    exact call_range_1 (range_it I1 (by omega) (by omega) q1 q2 (by simpa using q))
def tFor (wi:TI)(g:TG)(tb:TS):TS:=fun D σ H=>wi σ H fun J H1=>∃ W:Nat→Nat→St→Hp→Prop,(∃ m,W 0 m σ H1)∧∀ i m σ H,W i m σ H →
  (J.stop i H∧D.nx σ H)∨(J.go i H∧∃ N:St→Hp→Prop,(∀ σ' H',N σ' H'→∃ m',m'<m∧W (i+1) m' σ' H')∧∀ x H',J.yld i H x H'→g x σ H' fun σ2 H2=>tb { D with nx:=N,ct:=N,bk:=D.nx } σ2 H2)
def pinsAt (fp:List Addr)(h:Heap):List (Addr × Obj):=fp.filterMap fun b=>(h.get? b).map fun o=>(b,o)
theorem mem_pinsAt {fp:List Addr}{h:Heap}{b:Addr}{o:Obj}(hb:b∈fp)(e:h.get? b=some o):(b,o)∈pinsAt fp h:=List.mem_filterMap.mpr ⟨b,hb,by rw [e];rfl⟩
theorem of_pinsAt {fp:List Addr}{h:Heap}{p:Addr × Obj}(hp:p∈pinsAt fp h):p.1∈fp∧h.get? p.1=some p.2:=by
  obtain ⟨b,hb,e⟩:=List.mem_filterMap.mp hp
  cases q:h.get? b with
  | none=>rw [q] at e;cases e
  | some o =>
    rw [q] at e
    have e':(b,o)=p:=Option.some.inj e
    subst e'
    exact ⟨hb,q⟩
theorem Inv.pinned {pins:List (Addr × Obj)}{σ:St}{H:Hp}{s:Shared}{fp:List Addr}(I:Inv X pins σ H s)(hf:∀ b∈fp,FpOk X pins H b)(ho:∀ b∈fp,∃ o,s.heap.get? b=some o∧∀ v,o.data≠.cell v):Inv X (pins++pinsAt fp s.heap) σ H s :=
  I.pins_of fun p hp=>(List.mem_append.mp hp).elim (fun z=>I.pin p (List.mem_append_right _ z)) fun z=>by
    obtain ⟨hb,e⟩:=of_pinsAt z
    obtain ⟨f0,f1,f2,_⟩:=hf p.1 hb
    obtain ⟨o,e',d⟩:=ho p.1 hb
    rw [e] at e';cases e'
    exact ⟨e,f0,f1,f2,d⟩
theorem Inv.unpinned {pins pl:List (Addr × Obj)}{σ:St}{H:Hp}{s:Shared}(I:Inv X (pins++pl) σ H s):Inv X pins σ H s:=I.pins_of fun p hp=>I.pin p (List.mem_append_right _ (List.mem_append_left _ hp))
theorem ps_for {iter:Expr}{body:List Stmt}{wi:TI}{g:TG}{tb:TS}{pos:Pos}(hp:PassesOwn (model X.prog X.w) X.A X.env X.xe)(hc:X.calm=true)(hi:PI X tg iter wi)(hg:PG X tg g)(hb:PSs X body tb)
    (hs:∀ x,foldedSetIterable iter X.env x=pure x:=by intro _;rfl):PS X (.For tg iter body [] pos) (tFor wi g tb):=by
  intro pins s σ H D I h
  refine wpAny_For (thn (hi pins s σ H _ I h) fun v s1 h1=>thn h1 fun itv s2 h2=>?_) hs
  obtain ⟨it,fp,tn,J,H2,e,I2,T,st2,f2,W,⟨m0,w0⟩,turn⟩:=h2
  subst e
  have stat:∀ {H':Hp},(∀ b∈fp,H' b=none)→∀ b∈fp,FpOk X pins H' b:=fun hn b hb=>⟨hn b hb,(f2 b hb).2⟩
  refine codeAny_forLoop_any (fun n s'=>∃ i σ' H',Inv X pins σ' H' s'∧tn i s'.heap∧(∀ b∈fp,H' b=none)∧W i n σ' H') ?_ m0 ⟨0,σ,H2,I2,st2,fun b hb=>(f2 b hb).1,w0⟩
  rintro n s3 ⟨i,σ3,H3,I3,st3,fr3,w3⟩
  rcases turn i n σ3 H3 w3 with ⟨stop,qn⟩ | ⟨go,N,hN,step⟩
  · refine wpAny_passesOwn hp (thn (T.done X rfl rfl rfl hc i pins s3 σ3 H3 X.xe I3 (stat fr3) st3 stop) fun r s4 ⟨hr,I4⟩=>?_)
    subst hr
    exact wpAny_execs_nil ⟨σ3,H3,I4,qn⟩
  · refine wpAny_passesOwn hp (thn (T.item X rfl rfl rfl hc i pins s3 σ3 H3 X.xe I3 (stat fr3) st3 go) fun r s4 ⟨u,hr,h4⟩=>?_)
    subst hr
    refine wpAny_passesOwn hp (thn h4 fun _ s5 ⟨x,H5,I5,r5,y5,st5,fr5⟩=>?_)
    have I5':=I5.pinned (stat fr5) (T.obj _ _ st5)
    refine wpAny_passesOwn hp (thn (hg _ s5 σ3 H5 x u _ I5' r5 (step x H5 y5)) fun _ s6 ⟨σ6,H6,I6,q6⟩=>?_)
    refine wpAny_passesOwn hp (thn (hb _ s6 σ6 H6 _ I6 q6) fun f s7 q7=>?_)
    have again:∀ {σ7:St} {H7:Hp},Inv X (pins++pinsAt fp s5.heap) σ7 H7 s7→N σ7 H7→∃ m,m<n∧∃ i σ' H',Inv X pins σ' H' s7∧tn i s7.heap∧(∀ b∈fp,H' b=none)∧W i m σ' H':=fun {σ7 H7} I7 n7=>by
      obtain ⟨m',hm,w7⟩:=hN σ7 H7 n7
      refine ⟨m',hm,i+1,σ7,H7,I7.unpinned,T.keep _ _ _ st5 fun b hb o e=>(I7.pin (b,o) (List.mem_append_right _ (List.mem_append_right _ (mem_pinsAt hb e)))).1,fun b hb=>?_,w7⟩
      obtain ⟨o,e,d⟩:=T.obj _ _ st5 b hb
      exact (I7.pin (b,o) (List.mem_append_right _ (List.mem_append_right _ (mem_pinsAt hb e)))).2.1
    cases f with
    | next=>obtain ⟨σ7,H7,I7,n7⟩:=q7;exact again I7 n7
    | cont=>obtain ⟨σ7,H7,I7,n7⟩:=q7;exact again I7 n7
    | brk=>obtain ⟨σ7,H7,I7,q7⟩:=q7;exact ⟨σ7,H7,I7.unpinned,q7⟩
    | ret v=>obtain ⟨x7,σ7,H7,I7,r7,q7⟩:=q7;exact ⟨x7,σ7,H7,I7.unpinned,r7,q7⟩
end
theorem for_list {K:PySem.W.Frag}{a:Addr}{xs:List V}{g:TG}{tb:TS}{D:Ends}{σ:St}{H:Hp}(Pv:Nat→St→Hp→Prop)(h0:Pv 0 σ H)(hl:∀ i σ H,i≤xs.length→Pv i σ H→SqL K H a xs)
    (hs:∀ i x σ H,xs[i]?=some x→Pv i σ H→g x σ H fun σ2 H2=>tb { D with nx:=Pv (i+1),ct:=Pv (i+1),bk:=D.nx } σ2 H2) (hd:∀ σ H,Pv xs.length σ H→D.nx σ H) :
    ∃ W:Nat→Nat→St→Hp→Prop,(∃ m,W 0 m σ H)∧∀ i m σ H,W i m σ H →
      ((Itl K a).stop i H∧D.nx σ H)∨((Itl K a).go i H∧∃ N:St→Hp→Prop,(∀ σ' H',N σ' H'→∃ m',m'<m∧W (i+1) m' σ' H')∧∀ x H',(Itl K a).yld i H x H'→g x σ H' fun σ2 H2=>tb { D with nx:=N,ct:=N,bk:=D.nx } σ2 H2):=by
  refine ⟨fun i m σ H=>m=xs.length-i∧i≤xs.length∧Pv i σ H,⟨xs.length,by simp,Nat.zero_le _,h0⟩,?_⟩
  rintro i m σ H ⟨rfl,hi,p⟩
  have q:=hl i σ H hi p
  by_cases hlt:i<xs.length
  · refine .inr ⟨⟨xs,xs[i],q,by simp [hlt]⟩,Pv (i+1),fun σ' H' p'=>⟨xs.length-(i+1),by omega,rfl,hlt,p'⟩,fun x H' y=>?_⟩
    obtain ⟨e,y⟩:=y
    subst e
    exact hs i x σ _ (y xs q) p
  · have e:i=xs.length:=by omega
    subst e
    exact .inl ⟨⟨xs,q,Nat.le_refl _⟩,hd σ H p⟩
theorem for_range {lo:Int}{n:Nat}{g:TG}{tb:TS}{D:Ends}{σ:St}{H:Hp}(Pv:Nat→St→Hp→Prop)(h0:Pv 0 σ H)
    (hs:∀ i σ H,i<n→Pv i σ H→g (.int (lo+i)) σ H fun σ2 H2=>tb { D with nx:=Pv (i+1),ct:=Pv (i+1),bk:=D.nx } σ2 H2) (hd:∀ σ H,Pv n σ H→D.nx σ H) :
    ∃ W:Nat→Nat→St→Hp→Prop,(∃ m,W 0 m σ H)∧∀ i m σ H,W i m σ H →
      ((Itr lo n).stop i H∧D.nx σ H)∨((Itr lo n).go i H∧∃ N:St→Hp→Prop,(∀ σ' H',N σ' H'→∃ m',m'<m∧W (i+1) m' σ' H')∧∀ x H',(Itr lo n).yld i H x H'→g x σ H' fun σ2 H2=>tb { D with nx:=N,ct:=N,bk:=D.nx } σ2 H2):=by
  refine ⟨fun i m σ H=>m=n-i∧i≤n∧Pv i σ H,⟨n,by simp,Nat.zero_le _,h0⟩,?_⟩
  rintro i m σ H ⟨rfl,hi,p⟩
  by_cases hlt:i<n
  · refine .inr ⟨hlt,Pv (i+1),fun σ' H' p'=>⟨n-(i+1),by omega,rfl,hlt,p'⟩,fun x H' y=>?_⟩
    obtain ⟨e,y⟩:=y
    subst e y
    exact hs i σ _ hlt p
  · have e:i=n:=by omega
    subst e
    exact .inl ⟨Nat.le_refl _,hd σ H p⟩
end L2
namespace L2
open PySem PySem.Spec PyProof.Rows
abbrev R2:=V→V→Hp→VK→Prop
def OpR (X:Cx) (f:Value→Value→Sem Value) (r:R2):Prop :=
  ∀ (pins:List (Addr × Obj)) (s:Shared) (σ:St) (H:Hp) (x y:V) (v u:Value) (Q:VK),Inv X pins σ H s→RelV x v→RelV y u→r x y H Q →
    wpAny (model X.prog X.w) X.A (f v u) (EP X pins σ Q) X.xe s
def UnR (X:Cx) (f:Value→Sem Value) (r:V→Hp→VK→Prop):Prop :=
  ∀ (pins:List (Addr × Obj)) (s:Shared) (σ:St) (H:Hp) (x:V) (v:Value) (Q:VK),Inv X pins σ H s→RelV x v→r x H Q →
    wpAny (model X.prog X.w) X.A (f v) (EP X pins σ Q) X.xe s
def CallR (X:Cx) (f:Value) (r:List V→Hp→VK→Prop):Prop :=
  ∀ (pins:List (Addr × Obj)) (s:Shared) (σ:St) (H:Hp) (xs:List V) (us:List Value) (Q:VK),Inv X pins σ H s→Vals xs us→r xs H Q →
    wpAny (model X.prog X.w) X.A (call f us) (EP X pins σ Q) X.xe s
def tOp (r:R2)(ta tb:TE):TE:=fun σ H Q=>ta σ H fun x H1=>tb σ H1 fun y H2=>r x y H2 Q
def tUn (r:V→Hp→VK→Prop)(ta:TE):TE:=fun σ H Q=>ta σ H fun x H1=>r x H1 Q
def rI (C:Int→Int→Prop)(g:Int→Int→V):R2:=fun x y H Q=>∃ i j,x=.int i∧y=.int j∧C i j∧Q (g i j) H
def rI0 (g:Int→Int→V):R2:=fun x y H Q=>∃ i j,x=.int i∧y=.int j∧Q (g i j) H
def rU (g:Int→V):V→Hp→VK→Prop:=fun x H Q=>∃ i,x=.int i∧Q (g i) H
section
variable {X:Cx}{a b c:Expr}{ta tb tc:TE}{pos:Pos}
theorem binT (ha:PE X a ta)(hb:PE X b tb){pins:List (Addr × Obj)}{s:Shared}{σ:St}{H:Hp}{R:V→V→Hp→Prop}(I:Inv X pins σ H s)
    (h:ta σ H fun x H1=>tb σ H1 fun y H2=>R x y H2) {Q:Value→Shared→Prop} {f:Value→Value→Sem Value}
    (hf:∀ v u s2 x y H2,Inv X pins σ H2 s2→RelV x v→RelV y u→R x y H2→wpAny (model X.prog X.w) X.A (f v u) Q X.xe s2) :
    wpAny (model X.prog X.w) X.A (eval a X.env) (fun v s₁=>wpAny (model X.prog X.w) X.A (eval b X.env) (fun u s₂=>wpAny (model X.prog X.w) X.A (f v u) Q X.xe s₂) X.xe s₁) X.xe s:=by
  refine thn (ha pins s σ H _ I h) fun v s1 ⟨x,H1,I1,r1,q1⟩=>?_
  refine thn (hb pins s1 σ H1 _ I1 q1) fun u s2 ⟨y,H2,I2,r2,q2⟩=>?_
  exact hf v u s2 x y H2 I2 r1 r2 q2
theorem pe_op {op:Operator}{r:R2}(ho:OpR X (binaryOp op) r)(ha:PE X a ta)(hb:PE X b tb):PE X (.BinOp a op b pos) (tOp r ta tb):=by
  intro pins s σ H Q I h
  exact wpAny_BinOp (binT ha hb I h fun v u s2 x y H2 I2 rx ry q=>ho pins s2 σ H2 x y v u Q I2 rx ry q)
theorem pe_un {op:UnaryOp}{r:V→Hp→VK→Prop}(ho:UnR X (unaryOp op) r)(ha:PE X a ta):PE X (.UnaryOp op a pos) (tUn r ta):=by
  intro pins s σ H Q I h
  exact UnaryOp_ (thn (ha pins s σ H _ I h) fun v s1 ⟨x,H1,I1,r1,q1⟩=>ho pins s1 σ H1 x v Q I1 r1 q1)
theorem opI {f:Value→Value→Sem Value}{C:Int→Int→Prop}{g:Int→Int→Int}
    (rule:∀ (i j:Int) (t u:Tok) (s:Shared) (Q:Value→Shared→Prop) (E:Value→Shared→Prop),C i j→Q (.int (g i j) s.toks) { s with toks:=s.toks+1 }→wpAny (model X.prog X.w) X.A (f (.int i t) (.int j u)) Q E s) :
    OpR X f (rI C fun i j=>.int (g i j)):=by
  intro pins s σ H x y v u Q I rx ry h
  obtain ⟨i,j,rfl,rfl,hc,q⟩:=h
  obtain ⟨t,rfl⟩:=rx
  obtain ⟨t',rfl⟩:=ry
  exact rule i j t t' s _ _ hc ⟨.int (g i j),H,I.tok _,⟨_,rfl⟩,q⟩
theorem opI0 {f:Value→Value→Sem Value}{g:Int→Int→Int}
    (rule:∀ (i j:Int) (t u:Tok) (s:Shared) (Q:Value→Shared→Prop) (E:Value→Shared→Prop),Q (.int (g i j) s.toks) { s with toks:=s.toks+1 }→wpAny (model X.prog X.w) X.A (f (.int i t) (.int j u)) Q E s) :
    OpR X f (rI0 fun i j=>.int (g i j)):=by
  intro pins s σ H x y v u Q I rx ry h
  obtain ⟨i,j,rfl,rfl,q⟩:=h
  obtain ⟨t,rfl⟩:=rx
  obtain ⟨t',rfl⟩:=ry
  exact rule i j t t' s _ _ ⟨.int (g i j),H,I.tok _,⟨_,rfl⟩,q⟩
theorem opB0 {f:Value→Value→Sem Value}{g:Int→Int→Bool}
    (rule:∀ (i j:Int) (t u:Tok) (s:Shared) (Q:Value→Shared→Prop) (E:Value→Shared→Prop),Q (.bool (g i j)) s→wpAny (model X.prog X.w) X.A (f (.int i t) (.int j u)) Q E s) :
    OpR X f (rI0 fun i j=>.bl (g i j)):=by
  intro pins s σ H x y v u Q I rx ry h
  obtain ⟨i,j,rfl,rfl,q⟩:=h
  obtain ⟨t,rfl⟩:=rx
  obtain ⟨t',rfl⟩:=ry
  exact rule i j t t' s _ _ ⟨.bl (g i j),H,I,rfl,q⟩
def CDiv (i j:Int):Prop:=0<j∧j<1073741824
def CPow (i j:Int):Prop:=0≤j∧j≤1000000∧i.natAbs<2^64
def CMul (i j:Int):Prop:=(-(2^64)<i∧i<2^64)∨(-(2^64)<j∧j<2^64)
theorem CMul.ok {i j:Int}(h:CMul i j):IntMulOk i j:=by
  rcases h with ⟨h1,h2⟩ | ⟨h1,h2⟩
  · exact .of_left (intBits_le_64 h1 h2)
  · exact .of_right (intBits_le_64 h1 h2)
theorem op_add:OpR X (binaryOp .Add) (rI0 fun i j=>.int (i+j)):=opI0 fun _ _ _ _ _ _ _ q=>add_int q
theorem op_sub:OpR X (binaryOp .Sub) (rI0 fun i j=>.int (i-j)):=opI0 fun _ _ _ _ _ _ _ q=>sub_int q
theorem op_mul:OpR X (binaryOp .Mult) (rI CMul fun i j=>.int (i*j)):=opI fun _ _ _ _ _ _ _ hc q=>mul_int q hc.ok
theorem op_fdiv:OpR X (binaryOp .FloorDiv) (rI CDiv fun i j=>.int (i/j)):=opI fun i j _ _ _ _ _ hc q=>by
  have h1:(0:Int)<j:=hc.1
  have h2:j<1073741824:=hc.2
  exact floordiv_int (by omega) (by rw [Int.fdiv_eq_ediv_of_nonneg i (by omega)];exact q) (.inl (PyProof.noPylong_small (by omega)))
theorem op_mod:OpR X (binaryOp .Mod) (rI (fun _ j=>0<j) fun i j=>.int (i%j)):=opI fun i j _ _ _ _ _ hc q=>by
  have h1:(0:Int)<j:=hc
  exact mod_int' (by omega) (by rw [Int.fmod_eq_emod_of_nonneg i (by omega)];exact q)
theorem op_pow:OpR X (binaryOp .Pow) (rI CPow fun i j=>.int (i^j.toNat)):=opI fun _ _ _ _ _ _ _ hc q=>pow_int_small hc.1 hc.2.1 hc.2.2 q
theorem unI {f:Value→Sem Value}{g:Int→Int}
    (rule:∀ (i:Int) (t:Tok) (s:Shared) (Q:Value→Shared→Prop) (E:Value→Shared→Prop),Q (.int (g i) s.toks) { s with toks:=s.toks+1 }→wpAny (model X.prog X.w) X.A (f (.int i t)) Q E s) :
    UnR X f (rU fun i=>.int (g i)):=by
  intro pins s σ H x v Q I rx h
  obtain ⟨i,rfl,q⟩:=h
  obtain ⟨t,rfl⟩:=rx
  exact rule i t s _ _ ⟨.int (g i),H,I.tok _,⟨_,rfl⟩,q⟩
theorem un_neg:UnR X (unaryOp .USub) (rU fun i=>.int (-i)):=unI fun _ _ _ _ _ q=>neg_int q
end
def scal:V→V→Bool
  | .non,.non=>true | .non,.int _=>true | .int _,.non=>true | .non,.bl _=>true | .bl _,.non=>true | .non,.str _=>true | .str _,.non=>true
  | .int _,.int _=>true | .bl _,.bl _=>true | .str _,.str _=>true | .byt _,.byt _=>true
  | .int _,.str _=>true | .str _,.int _=>true | .bl _,.str _=>true | .str _,.bl _=>true
  | _,_=>false
def rEq:R2:=fun x y H Q=>scal x y=true∧Q (.bl (decide (x=y))) H
def rNe:R2:=fun x y H Q=>scal x y=true∧Q (.bl (!decide (x=y))) H
theorem dec_int {i j:Int}:decide (V.int i=V.int j)=(i==j):=by
  rw [Bool.eq_iff_iff]
  simp
theorem dec_bl {i j:Bool}:decide (V.bl i=V.bl j)=(i==j):=by
  rw [Bool.eq_iff_iff]
  simp
theorem dec_str {i j:Str}:decide (V.str i=V.str j)=(i==j):=by
  rw [Bool.eq_iff_iff]
  simp
theorem dec_byt {i j:Array UInt8}:decide (V.byt i=V.byt j)=(i.toList==j.toList):=by
  rw [Bool.eq_iff_iff]
  cases i
  cases j
  simp
section
variable {X:Cx}{a b c:Expr}{ta tb tc:TE}{pos:Pos}
theorem fin_bl {pins:List (Addr × Obj)}{σ:St}{H:Hp}{s:Shared}{Q:VK}{k k':Bool}(I:Inv X pins σ H s)(q:Q (.bl k) H)(e:k=k'):EP X pins σ Q (.bool k') s:=by
  subst e
  exact ⟨.bl k,H,I,rfl,q⟩
theorem op_eq:OpR X (compareOp .Eq) rEq:=by
  intro pins s σ H x y v u Q I rx ry h
  obtain ⟨hs,q⟩:=h
  cases x with
  | non =>
    cases rx
    cases y with
    | non=>cases ry;exact PySem.EqNone.eq_none_none (fin_bl I q (by simp))
    | bl j=>cases ry;exact PySem.EqNone.eq_none_bool (fin_bl I q (by simp))
    | int j=>obtain ⟨t',rfl⟩:=ry;exact PySem.EqNone.eq_none_int (fin_bl I q (by simp))
    | str j=>obtain ⟨t',rfl⟩:=ry;exact PySem.EqNone.eq_none_str (fin_bl I q (by simp))
    | _=>exact absurd (show false=true from hs) Bool.false_ne_true
  | bl i =>
    cases rx
    cases y with
    | non=>cases ry;exact PySem.EqNone.eq_bool_none (fin_bl I q (by simp))
    | bl j=>cases ry;exact eq_bool (fin_bl I q dec_bl)
    | str j=>obtain ⟨t',rfl⟩:=ry;exact PySem.EqMixed.eq_bool_str (fin_bl I q (by simp))
    | _=>exact absurd (show false=true from hs) Bool.false_ne_true
  | int i =>
    obtain ⟨t,rfl⟩:=rx
    cases y with
    | non=>cases ry;exact PySem.EqNone.eq_int_none (fin_bl I q (by simp))
    | int j=>obtain ⟨t',rfl⟩:=ry;exact eq_int (fin_bl I q dec_int)
    | str j=>obtain ⟨t',rfl⟩:=ry;exact PySem.EqMixed.eq_int_str (fin_bl I q (by simp))
    | _=>exact absurd (show false=true from hs) Bool.false_ne_true
  | str i =>
    obtain ⟨t,rfl⟩:=rx
    cases y with
    | non=>cases ry;exact PySem.EqNone.eq_str_none (fin_bl I q (by simp))
    | bl j=>cases ry;exact PySem.EqMixed.eq_str_bool (fin_bl I q (by simp))
    | int j=>obtain ⟨t',rfl⟩:=ry;exact PySem.EqMixed.eq_str_int (fin_bl I q (by simp))
    | str j=>obtain ⟨t',rfl⟩:=ry;exact eq_str (fin_bl I q dec_str)
    | _=>exact absurd (show false=true from hs) Bool.false_ne_true
  | byt i =>
    obtain ⟨t,rfl⟩:=rx
    cases y with
    | byt j=>obtain ⟨t',rfl⟩:=ry;exact PySem.W.eq_bytes (fin_bl I q dec_byt)
    | _=>exact absurd (show false=true from hs) Bool.false_ne_true
  | _=>cases y<;>exact absurd (show false=true from hs) Bool.false_ne_true
theorem op_ne:OpR X (compareOp .NotEq) rNe:=by
  intro pins s σ H x y v u Q I rx ry h
  obtain ⟨hs,q⟩:=h
  cases x with
  | non =>
    cases rx
    cases y with
    | non=>cases ry;exact PySem.EqNone.ne_none_none (fin_bl I q (by simp))
    | bl j=>cases ry;exact PySem.EqNone.ne_none_bool (fin_bl I q (by simp))
    | int j=>obtain ⟨t',rfl⟩:=ry;exact PySem.EqNone.ne_none_int (fin_bl I q (by simp))
    | str j=>obtain ⟨t',rfl⟩:=ry;exact PySem.EqNone.ne_none_str (fin_bl I q (by simp))
    | _=>exact absurd (show false=true from hs) Bool.false_ne_true
  | bl i =>
    cases rx
    cases y with
    | non=>cases ry;exact PySem.EqNone.ne_bool_none (fin_bl I q (by simp))
    | bl j=>cases ry;exact ne_bool (fin_bl I q (congrArg not dec_bl))
    | str j=>obtain ⟨t',rfl⟩:=ry;exact PySem.EqMixed.ne_bool_str (fin_bl I q (by simp))
    | _=>exact absurd (show false=true from hs) Bool.false_ne_true
  | int i =>
    obtain ⟨t,rfl⟩:=rx
    cases y with
    | non=>cases ry;exact PySem.EqNone.ne_int_none (fin_bl I q (by simp))
    | int j=>obtain ⟨t',rfl⟩:=ry;exact ne_int (fin_bl I q (congrArg not dec_int))
    | str j=>obtain ⟨t',rfl⟩:=ry;exact PySem.EqMixed.ne_int_str (fin_bl I q (by simp))
    | _=>exact absurd (show false=true from hs) Bool.false_ne_true
  | str i =>
    obtain ⟨t,rfl⟩:=rx
    cases y with
    | non=>cases ry;exact PySem.EqNone.ne_str_none (fin_bl I q (by simp))
    | bl j=>cases ry;exact PySem.EqMixed.ne_str_bool (fin_bl I q (by simp))
    | int j=>obtain ⟨t',rfl⟩:=ry;exact PySem.EqMixed.ne_str_int (fin_bl I q (by simp))
    | str j=>obtain ⟨t',rfl⟩:=ry;exact ne_str (fin_bl I q (congrArg not dec_str))
    | _=>exact absurd (show false=true from hs) Bool.false_ne_true
  | byt i =>
    obtain ⟨t,rfl⟩:=rx
    cases y with
    | byt j=>obtain ⟨t',rfl⟩:=ry;exact PySem.W.ne_bytes (fin_bl I q (congrArg not dec_byt))
    | _=>exact absurd (show false=true from hs) Bool.false_ne_true
  | _=>cases y<;>exact absurd (show false=true from hs) Bool.false_ne_true
theorem op_lt:OpR X (compareOp .Lt) (rI0 fun i j=>.bl (decide (i<j))):=opB0 fun _ _ _ _ _ _ _ q=>lt_int q
theorem op_le:OpR X (compareOp .LtE) (rI0 fun i j=>.bl (decide (i≤j))):=opB0 fun _ _ _ _ _ _ _ q=>le_int q
theorem op_gt:OpR X (compareOp .Gt) (rI0 fun i j=>.bl (decide (j<i))):=opB0 fun _ _ _ _ _ _ _ q=>gt_int q
theorem nomark (b:Expr){op:CmpOp}(h:op≠.In:=by decide)(h2:op≠.NotIn:=by decide):behindInMarks op b=false:=by
  have e1:(op==CmpOp.In)=false:=by cases op<;>first | rfl | exact absurd rfl h
  have e2:(op==CmpOp.NotIn)=false:=by cases op<;>first | rfl | exact absurd rfl h2
  cases b<;>simp [behindInMarks,e1,e2]
theorem pe_cmpR {op:CmpOp}{r:R2}(ho:OpR X (compareOp op) r)(ha:PE X a ta)(hb:PE X b tb)(hm:behindInMarks op b=false):PE X (.Compare a [op] [b] pos) (tOp r ta tb):=by
  intro pins s σ H Q I h
  exact wpAny_Compare1 (binT ha hb I h fun v u s2 x y H2 I2 rx ry q=>ho pins s2 σ H2 x y v u Q I2 rx ry q) hm
def tTest (t:TE):TT:=fun σ H Q=>t σ H fun x H'=>∃ k,x=.bl k∧Q k H'
theorem pt_cmpR {op:CmpOp}{r:R2}(ho:OpR X (compareOp op) r)(ha:PE X a ta)(hb:PE X b tb)(hm:behindInMarks op b=false):PT X (.Compare a [op] [b] pos) (tTest (tOp r ta tb)):=by
  intro pins s σ H Q I h
  refine wpAny_isTrue_Compare1 (thn (ha pins s σ H _ I h) fun v s1 ⟨x,H1,I1,r1,q1⟩=>thn (hb pins s1 σ H1 _ I1 q1) fun u s2 ⟨y,H2,I2,r2,q2⟩ =>
    thn (ho pins s2 σ H2 x y v u _ I2 r1 r2 q2) fun c s3 ⟨z,H3,I3,r3,k,e,q3⟩=>?_) hm
  subst e
  cases r3
  exact wpAny_truthy_bool ⟨H3,I3,q3⟩
def tChain (r r':R2)(ta tb tc:TE):TE:=fun σ H Q=>ta σ H fun x H1=>tb σ H1 fun y H2=>r x y H2 fun z H3=>∃ k,z=.bl k ∧
  (if k=true then tc σ H3 fun w' H4=>r' y w' H4 Q else Q (.bl false) H3)
theorem pe_chain {op op':CmpOp}{r r':R2}(ho:OpR X (compareOp op) r)(ho':OpR X (compareOp op') r')(ha:PE X a ta)(hb:PE X b tb)(hc:PE X c tc)
    (hm:lastMarks [op,op'] [b,c]=false:=by with_unfolding_all rfl):PE X (.Compare a [op,op'] [b,c] pos) (tChain r r' ta tb tc):=by
  intro pins s σ H Q I h
  refine Compare_chain (thn (ha pins s σ H _ I h) fun v s1 ⟨x,H1,I1,r1,q1⟩=>chain_link (thn (hb pins s1 σ H1 _ I1 q1) fun u s2 ⟨y,H2,I2,r2,q2⟩ =>
    thn (ho pins s2 σ H2 x y v u _ I2 r1 r2 q2) fun d s3 ⟨z,H3,I3,r3,k,e,q3⟩=>?_)) hm
  subst e
  cases r3
  refine wpAny_truthy_bool ?_
  cases k with
  | false=>exact ite_ff ⟨.bl false,H3,I3,rfl,q3⟩
  | true=>exact ite_tt (chain_last (thn (hc pins s3 σ H3 _ I3 q3) fun w' s4 ⟨z',H4,I4,r4,q4⟩=>ho' pins s4 σ H4 y z' u w' Q I4 r2 r4 q4))
theorem line63:(sizeLine:Nat)<2^63:=by rw [sizeLine_eq];decide
theorem op_add_str:OpR X (binaryOp .Add) (fun x y H Q=>∃ i j,x=.str i∧y=.str j∧i.length+j.length≤sizeLine∧Q (.str (i++j)) H):=by
  intro pins s σ H x y v u Q I rx ry h
  obtain ⟨i,j,rfl,rfl,hz,q⟩:=h
  obtain ⟨t,rfl⟩:=rx
  obtain ⟨t',rfl⟩:=ry
  exact add_str (fun t' tk=>⟨.str (i++j),H,I.tok _,⟨_,rfl⟩,q⟩) hz
theorem vals1 {x:V}{us:List Value}(r:Vals [x] us):∃ u,us=[u]∧RelV x u:=by
  cases r with
  | cons r1 r2=>cases r2;exact ⟨_,rfl,r1⟩
theorem vals2 {x y:V}{us:List Value}(r:Vals [x,y] us):∃ u w',us=[u,w']∧RelV x u∧RelV y w':=by
  cases r with
  | cons r1 r2 =>
    cases r2 with
    | cons r3 r4=>cases r4;exact ⟨_,_,rfl,r1,r3⟩
theorem call_min2 (hc:X.calm=true):CallR X (.builtin "min") (fun xs H Q=>∃ i j,xs=[.int i,.int j]∧Q (.int (if j<i then j else i)) H):=by
  intro pins s σ H xs us Q I r h
  obtain ⟨i,j,rfl,q⟩:=h
  obtain ⟨u,w',rfl,⟨t,rfl⟩,⟨t',rfl⟩⟩:=vals2 r
  refine min_two_ints (I.ok.hd hc) fun h' tk k=>⟨_,H,I.kept k,?_,q⟩
  by_cases hj:j<i
  · rw [if_pos hj,if_pos hj];exact ⟨_,rfl⟩
  · rw [if_neg hj,if_neg hj];exact ⟨_,rfl⟩
theorem call_int1:CallR X (.type "int") (fun xs H Q=>(∃ i,xs=[.int i]∧Q (.int i) H)∨∃ k,xs=[.bl k]∧Q (.int (if k then 1 else 0)) H):=by
  intro pins s σ H xs us Q I r h
  rcases h with ⟨i,rfl,q⟩ | ⟨k,rfl,q⟩
  · obtain ⟨u,rfl,t,rfl⟩:=vals1 r
    exact call_int_int ⟨.int i,H,I,⟨_,rfl⟩,q⟩
  · obtain ⟨u,rfl,r1⟩:=vals1 r
    cases r1
    exact call_int_bool ⟨.int (if k then 1 else 0),H,I.tok _,⟨_,rfl⟩,q⟩
end
end L2
namespace L2
open PySem PySem.Spec PyProof.Rows
structure ObjM (h:Heap)(x dx C:Addr)(mA:Str→Option Value):Prop where
  obj:h.get? x=some (PySem.W.instObj C dx)
  ns:h.Ns1 dx mA
  ne:dx≠x
theorem lookIn_ns {h:Heap}{dx:Addr}{mA:Str→Option Value}(n:h.Ns1 dx mA):∃ od,h.get? dx=some od∧∀ name,PySem.W.lookIn name od=some (mA name):=by
  obtain ⟨o,es,ep,ho,hd,hk,_,hm⟩:=n
  refine ⟨o,ho,fun name=>?_⟩
  have e:=hm name
  unfold nsFind findBy at e
  rw [← Array.find?_toList] at e
  unfold PySem.W.lookIn
  rw [hd]
  dsimp only
  split
  · rename_i y q
    rw [q] at e
    exact congrArg some e
  · rename_i q
    rw [q] at e
    have a:es.toList.any (·.refKey)=false:=by
      rw [List.any_eq_false]
      intro y hy
      obtain ⟨z,t,hkey⟩:=hk y (Array.mem_toList_iff.mp hy)
      simp [DictEntry.refKey,hkey]
    have a':¬ es.toList.any (·.refKey)=true:=by rw [a];exact Bool.false_ne_true
    rw [if_neg a']
    exact congrArg some e
theorem ObjM.look {h:Heap}{x dx C:Addr}{mA:Str→Option Value}(I:ObjM h x dx C mA):∃ od,PySem.W.InstAt h x (PySem.W.instObj C dx) C (some od)∧∀ name,PySem.W.lookIn name od=some (mA name) :=
  let ⟨od,ho,hl⟩:=lookIn_ns I.ns
  ⟨od,⟨I.obj,rfl,rfl,ho⟩,hl⟩
section
variable {prog:Program}{w:World}{A:Around}{E:Value→Shared→Prop}{s:Shared}{K:PySem.W.Frag}{x dx C f:Addr}{mA:Str→Option Value}{name:Str}{v:Value}
theorem get_map {expr:Bool}{Q:Value→Shared→Prop}(X:K.In s.heap)(I:ObjM s.heap x dx C mA)(hg:PySem.W.plainGet K C name=true)(hh:PySem.W.hasDictIn K C=true)
    (ha:PySem.W.findIn K (.ref C) name=some none) (hv:mA name=some v) (hv':PySem.W.handedIn v=true) (h:Q v { s with toks:=s.toks+1 }) :
    wpAny (model prog w) A (getAttr (.ref x) name expr) Q E s:=by
  obtain ⟨od,J,hl⟩:=I.look
  exact PySem.W.get_value X J (PySem.W.plainGet_of hg).1 (PySem.W.findObj_own hh ha rfl (by rw [hl,hv])) hv' h
theorem get_meth {pl:Sem Bool}{Q:Value × List Value→Shared→Prop}(X:K.In s.heap)(I:ObjM s.heap x dx C mA)(hg:PySem.W.plainGet K C name=true)
    (hf:PySem.W.findIn K (.ref C) name=some (some (.ref f))) (ht:PySem.W.isFn K (.ref f)=true) (hv:mA name=none) (h:Q (.ref f,[.ref x]) s) :
    wpAny (model prog w) A (getMethod (.ref x) name pl) Q E s:=by
  obtain ⟨od,J,hl⟩:=I.look
  exact PySem.W.method_fn X J (PySem.W.plainGet_of hg).1 (PySem.W.plainGet_of hg).2 hf (beq_iff_eq.mp ht) (by show (PySem.W.lookIn name od).map (·.isSome)=some false;rw [hl,hv];rfl) h
theorem set_map {ns:List Str}{Q:Unit→Shared→Prop}(X:K.In s.heap)(I:ObjM s.heap x dx C mA)
    (hs:PySem.W.findIn K (.ref C) "__setattr__"=some (some (.builtin "object.__setattr__"))) (hp:PySem.W.plainOver K C=true) (ht:PySem.W.takerIn K C name=some none) (hh:PySem.W.hasDictIn K C=true)
    (hw:PySem.Within mA ns) (hsz:ns.length≤sizeLine)
    (h:∀ h',ObjM h' x dx C (fun y=>if y=name then some v else mA y)→Heap.SameBut dx s.heap h'→Q () { s with heap:=h',toks:=s.toks+2 }) :
    wpAny (model prog w) A (setAttr (.ref x) name v) Q E s:=by
  obtain ⟨od,J,hl⟩:=I.look
  refine PySem.W.set_plain X J hs (PySem.W.osa_open (s:={ s with toks:=s.toks+1 }) (r:=none) X J hp ht fun b=>?_)
  obtain ⟨cd,hc,hd'⟩:=PySem.W.any_some hh
  have hx:s.heap.get? x=some ⟨.ref C,some dx,.plain,#[]⟩:=I.obj
  refine wpAny_bind (wpAny_pure (wpAny_bind (wpAny_bind (wpAny_loadPart hx (wpAny_bind (PySem.W.Looks.here (s:={ s with toks:=s.toks+1 }) (PySem.W.looks_clsIn X hc) ?_))))))
  rw [hd']
  refine wpAny_pure (a:=some dx) (wpAny_bind (wpAny_pure (wpAny_bind ?_)))
  refine wpAny_nsSet1 (s:={ s with toks:=s.toks+1 }) I.ns fun h' hn2 hs2=>?_
  obtain ⟨oD,esD,epD,hoD,hdD,hcD⟩:=hn2.count (PySem.Within.cons name v hw)
  refine wpAny_bind (wpAny_lookBehind hoD (by rw [hdD];exact pastItsLine_dict (Nat.le_trans hcD (by rw [List.length_cons];omega))) ?_)
  exact wpAny_pure (h _ ⟨(hs2.2 _ (Ne.symm I.ne)).trans I.obj,hn2,I.ne⟩ hs2)
theorem make_map {R:Result→Shared→Prop}{vs:List Value}{kw:List (Str × Value)}(X:K.In s.heap)(hm:PySem.W.makesIn K C=true)
    (hi:PySem.W.findIn K (.ref C) "__init__"=some (some (.ref f))) (hf:PySem.W.typeIn K (.ref f)=some (.type "function"))
    (h:codeAny (model prog w) (A.under (.builtin "type.__call__" ⟨.ref C::vs,kw⟩)) (.call (.ref f) ⟨.ref (s.heap.objs.size+1)::vs,kw⟩) (PySem.W.InitBack (s.heap.objs.size+1) R)
      { s with heap:=(s.heap.push PySem.W.emptyDict).push (PySem.W.instObj C s.heap.objs.size) }) :
    codeAny (model prog w) A (.call (.ref C) ⟨vs,kw⟩) R s:=by
  obtain ⟨hh,g,d,t,os⟩:=s
  exact PySem.W.make_core (PySem.W.makes_of X hm) (PySem.W.looks_findIn X hi) (fun self=>PySem.W.bind_fn X self hf) (.inl rfl) h
end
def putF (f:Str)(v:V):List (Str × V)→List (Str × V)
  | []=>[(f,v)]
  | (g,x)::r=>if g=f then (g,v)::r else (g,x)::putF f v r
theorem lookup_putF (f g:Str) (v:V):∀ fs:List (Str × V),(putF f v fs).lookup g=if g=f then some v else fs.lookup g
  | []=>by
    show List.lookup g [(f,v)]=_
    by_cases h:g=f
    · have hb:(g==f)=true:=beq_iff_eq.mpr h
      simp only [List.lookup,hb,if_pos h]
    · have hb:(g==f)=false:=beq_eq_false_iff_ne.mpr h
      simp only [List.lookup,hb,if_neg h]
  | (k, x)::r=>by
    have ih:=lookup_putF f g v r
    rw [show putF f v ((k,x)::r)=(if k=f then (k,v)::r else (k,x)::putF f v r) from rfl]
    by_cases hk:k=f
    · rw [if_pos hk]
      by_cases h:g=k
      · have hb:(g==k)=true:=beq_iff_eq.mpr h
        simp only [List.lookup,hb,if_pos (h.trans hk)]
      · have hb:(g==k)=false:=beq_eq_false_iff_ne.mpr h
        simp only [List.lookup,hb,if_neg (fun e:g=f=>h (e.trans hk.symm))]
    · rw [if_neg hk]
      by_cases h:g=k
      · have hb:(g==k)=true:=beq_iff_eq.mpr h
        simp only [List.lookup,hb,if_neg (fun e:g=f=>hk (h.symm.trans e))]
      · have hb:(g==k)=false:=beq_eq_false_iff_ne.mpr h
        simp only [List.lookup,hb]
        exact ih
theorem keys_putF (f:Str) (v:V):∀ fs:List (Str × V),f∈(putF f v fs).map (·.1)∧∀ g,g∈fs.map (·.1)→g∈(putF f v fs).map (·.1)
  | []=>⟨by simp [putF],fun g h=>by simp at h⟩
  | (k, x)::r=>by
    obtain ⟨i1,i2⟩:=keys_putF f v r
    rw [show putF f v ((k,x)::r)=(if k=f then (k,v)::r else (k,x)::putF f v r) from rfl]
    by_cases hk:k=f
    · rw [if_pos hk]
      subst hk
      exact ⟨by simp,fun g h=>by simpa using h⟩
    · rw [if_neg hk]
      refine ⟨?_,fun g h=>?_⟩
      · rw [List.map_cons]
        exact List.mem_cons_of_mem _ i1
      · rw [List.map_cons] at h ⊢
        rcases List.mem_cons.mp h with e | e
        · exact List.mem_cons.mpr (.inl e)
        · exact List.mem_cons_of_mem _ (i2 g e)
theorem length_putF (f:Str)(v:V):∀ fs:List (Str × V),(putF f v fs).length≤fs.length+1
  | []=>by simp [putF]
  | (k,x)::r=>by
    have ih:=length_putF f v r
    rw [show putF f v ((k,x)::r)=(if k=f then (k,v)::r else (k,x)::putF f v r) from rfl]
    by_cases hk:k=f
    · rw [if_pos hk,List.length_cons,List.length_cons];omega
    · rw [if_neg hk,List.length_cons,List.length_cons];omega
theorem RelO.some_of {v:V}{o:Option Value}(r:RelO (some v) o):∃ u,o=some u∧RelV v u:=by
  cases o with
  | none=>exact (show False from r).elim
  | some u=>exact ⟨u,rfl,r⟩
theorem RelO.none_of {o:Option Value}(r:RelO none o):o=none:=by
  cases o with
  | none=>rfl
  | some u=>exact (show False from r).elim
theorem handed_of {v:V}{u:Value}(r:RelV v u):PySem.W.handedIn u=true:=by
  cases v with
  | non=>cases (show u=Value.none from r);rfl
  | bl b=>cases (show u=Value.bool b from r);rfl
  | int i=>obtain ⟨t,e⟩:=(show ∃ t,u=Value.int i t from r);cases e;rfl
  | str x=>obtain ⟨t,e⟩:=(show ∃ t,u=Value.str x t from r);cases e;rfl
  | byt b=>obtain ⟨t,e⟩:=(show ∃ t,u=Value.bytes b t from r);cases e;rfl
  | flt b=>obtain ⟨t,e⟩:=(show ∃ t,u=Value.float b t from r);cases e;rfl
  | ref a=>cases (show u=Value.ref a from r);rfl
  | ty n=>cases (show u=Value.type n from r);rfl
section
variable {P:Program}{w:World}{H H':Hp}{h h':Heap}{a C dx:Addr}{fs fs':List (Str × V)}
theorem ins_get (hok:HOk P w H h)(e:H a=some (.ins C dx fs)):∃ mA,ObjM h a dx C mA∧(∀ f,RelO (fs.lookup f) (mA f))∧PySem.Within mA (fs.map (·.1))∧fs.length≤1000∧H dx=some (.own a):=by
  obtain ⟨d,z,ne,ob,mA,n,r,q⟩:=(show ObjOk P w H h a (.ins C dx fs) from hok a _ e)
  exact ⟨mA,⟨ob,n,ne⟩,r,q,z,d⟩
end
structure Cls (K:PySem.W.Frag)(C:Addr):Prop where
  pg:PySem.W.plainGet K C Str.empty=true
  hd:PySem.W.hasDictIn K C=true
  po:PySem.W.plainOver K C=true
  sa:PySem.W.findIn K (.ref C) "__setattr__"=some (some (.builtin "object.__setattr__"))
theorem Cls.get {K:PySem.W.Frag}{C:Addr}(c:Cls K C)(f:Str):PySem.W.plainGet K C f=true:=c.pg
def NoAttr (K:PySem.W.Frag)(C:Addr)(f:Str):Prop:=PySem.W.findIn K (.ref C) f=some none
theorem NoAttr.taker {K:PySem.W.Frag}{C:Addr}{f:Str}(n:NoAttr K C f):PySem.W.takerIn K C f=some none:=by
  unfold PySem.W.takerIn
  rw [show PySem.W.findIn K (.ref C) f=some none from n]
  rfl
structure Con (K:PySem.W.Frag)(C:Addr)(f:Str)(v:V)(u:Value):Prop where
  at_:PySem.W.findIn K (.ref C) f=some (some u)
  rel:RelV v u
  get:PySem.W.specialIn K u "__get__"=some none
  cp:PySem.W.copiedNames.contains f=false
structure Meth (K:PySem.W.Frag)(C:Addr)(m:Str)(f:Addr):Prop where
  at_:PySem.W.findIn K (.ref C) m=some (some (.ref f))
  fn:PySem.W.isFn K (.ref f)=true
  kp:PySem.W.keepIn K (.ref f)=true
section
variable {X:Cx}{pins:List (Addr × Obj)}{σ:St}{H:Hp}{s:Shared}{a C dx:Addr}{fs:List (Str × V)}{f:Str}{v:V}{A:Around}{E:Value→Shared→Prop}
theorem getattr_ok {b:Bool}{Q:Value→Shared→Prop}(I:Inv X pins σ H s)(e:H a=some (.ins C dx fs))(c:Cls X.K C)(n:NoAttr X.K C f)(l:fs.lookup f=some v)
    (h:∀ u s',Inv X pins σ H s'→RelV v u→Q u s'):wpAny (model X.prog X.w) A (getAttr (.ref a) f b) Q E s:=by
  obtain ⟨mA,O,r,_,_,_⟩:=ins_get I.hok e
  obtain ⟨u,hu,ru⟩:=RelO.some_of (v:=v) (o:=mA f) (by rw [← l];exact r f)
  exact get_map I.kIn O (c.get f) c.hd n hu (handed_of ru) (h u _ (I.tok _) ru)
theorem getmeth_ok {m:Str}{g:Addr}{pl:Sem Bool}{Q:Value × List Value→Shared→Prop}(I:Inv X pins σ H s)(e:H a=some (.ins C dx fs))(c:Cls X.K C)(k:Meth X.K C m g)(l:fs.lookup m=none)
    (h:Q (.ref g,[.ref a]) s):wpAny (model X.prog X.w) A (getMethod (.ref a) m pl) Q E s:=by
  obtain ⟨mA,O,r,_,_,_⟩:=ins_get I.hok e
  have hn:mA m=none:=RelO.none_of (by rw [← l];exact r m)
  exact get_meth I.kIn O (c.get m) k.at_ k.fn hn h
theorem setattr_ok {y:V}{u:Value}{Q:Unit→Shared→Prop}(I:Inv X pins σ H s)(e:H a=some (.ins C dx fs))(c:Cls X.K C)(n:NoAttr X.K C f)(hl:fs.length<1000)(ry:RelV y u)
    (h:∀ s',Inv X pins σ (upd H a (.ins C dx (putF f y fs))) s'→Q () s'):wpAny (model X.prog X.w) A (setAttr (.ref a) f u) Q E s:=by
  obtain ⟨mA,O,r,wi,_,ho⟩:=ins_get I.hok e
  have hz:(fs.map (·.1)).length≤sizeLine:=by rw [List.length_map,sizeLine_eq];omega
  refine set_map I.kIn O c.sa c.po n.taker c.hd wi hz fun h' O' sb=>h _ ?_
  have hd:∃ o,h'.get? dx=some o:=let ⟨o,_,_,e',_⟩:=O'.ns;⟨o,e'⟩
  refine I.write (x:=a) (e:=dx) (by rw [e];exact True.intro) (.inr ho) (fun b q hb z=>(sb.2 b hb).trans z) hd ?_
  refine ⟨by rw [upd_ne O.ne];exact ho,?_,O.ne,O'.obj,_,O'.ns,fun g=>?_,fun g hg=>?_⟩
  · have:=length_putF f y fs;omega
  · show RelO ((putF f y fs).lookup g) (if g=f then some u else mA g)
    rw [lookup_putF]
    by_cases q:g=f
    · rw [if_pos q,if_pos q];exact ry
    · rw [if_neg q,if_neg q];exact r g
  · by_cases q:g=f
    · rw [q];exact (keys_putF f y fs).1
    · refine (keys_putF f y fs).2 g (wi g fun z=>hg ?_)
      show (if g=f then some u else mA g)=none
      rw [if_neg q];exact z
theorem Inv.made (I:Inv X pins σ H s):Inv X pins σ (upd (upd H s.heap.objs.size (.own (s.heap.objs.size+1))) (s.heap.objs.size+1) (.ins C s.heap.objs.size []))
    { s with heap:=(s.heap.push PySem.W.emptyDict).push (PySem.W.instObj C s.heap.objs.size) }:=by
  have e1:(s.heap.push PySem.W.emptyDict).get? s.heap.objs.size=some PySem.W.emptyDict:=Heap.get?_push_size s.heap rfl
  have e2:((s.heap.push PySem.W.emptyDict).push (PySem.W.instObj C s.heap.objs.size)).get? (s.heap.objs.size+1)=some (PySem.W.instObj C s.heap.objs.size):=by
    have:=Heap.get?_push_size (s.heap.push PySem.W.emptyDict) (o:=PySem.W.instObj C s.heap.objs.size) rfl
    rwa [Heap.size_push] at this
  have e3:(s.heap.push PySem.W.emptyDict).Ns s.heap.objs.size (fun _=>none):=⟨PySem.W.emptyDict,#[],_,e1,rfl,(fun e he=>absurd he (by simp)),fun _=>rfl⟩
  have I1:=I.laid (a:=s.heap.objs.size) (o:=.own (s.heap.objs.size+1)) (h':=s.heap.push PySem.W.emptyDict) (t':=s.toks) (fun b u q=>Heap.get?_push_of_some _ q) (Nat.le_refl _) ⟨_,e1⟩
  refine I1.laid (a:=s.heap.objs.size+1) (o:=.ins C s.heap.objs.size []) (t':=s.toks) (fun b u q=>Heap.get?_push_of_some _ q) (Nat.le_of_eq (Heap.size_push _ _)) ?_
  have ne:s.heap.objs.size≠s.heap.objs.size+1:=Nat.ne_of_lt (Nat.lt_succ_self _)
  refine ⟨by rw [upd_ne ne,upd_same],Nat.zero_le _,ne,e2,fun _=>none,(Heap.Ns1.of_empty e3).at fun o q=>Heap.get?_push_of_some _ q,fun _=>True.intro,fun y hy=>absurd rfl hy⟩
theorem attr_of {prog:Program}{w:World}{env:Env}{e:Expr}{f:Str}{pos:Pos}{s:Shared}{Q:Value→Shared→Prop}(hb:attributeBase e f env (eval e env)=eval e env)
    (h:wpAny (model prog w) A (eval e env) (fun o s₁=>wpAny (model prog w) A (getAttr o f true) Q E s₁) E s):wpAny (model prog w) A (eval (.Attribute e f pos) env) Q E s :=
  Attribute_any_ h (by rw [arm_eval_Attribute,hb])
end
def tFld (K:PySem.W.Frag)(ta:TE)(f:Str):TE:=fun σ H Q=>ta σ H fun x H1=>∃ a C dx fs v,x=.ref a∧H1 a=some (.ins C dx fs)∧Cls K C∧NoAttr K C f∧fs.lookup f=some v∧Q v H1
def sFld (K:PySem.W.Frag)(ta tv:TE)(f:Str):TS:=fun D σ H=>tv σ H fun y H1=>ta σ H1 fun x H2=>∃ a C dx fs,x=.ref a∧H2 a=some (.ins C dx fs)∧Cls K C∧NoAttr K C f∧fs.length<1000 ∧
  D.nx σ (upd H2 a (.ins C dx (putF f y fs)))
section
variable {X:Cx}{o e value:Expr}{f:Str}{pos pos' tpos:Pos}{ta tv:TE}
theorem pe_fld (he:PE X e ta)(hb:attributeBase e f X.env (eval e X.env)=eval e X.env):PE X (.Attribute e f pos) (tFld X.K ta f):=by
  intro pins s σ H Q I h
  refine attr_of hb (thn (he pins s σ H _ I h) fun u s1 ⟨x,H1,I1,rx,a,C,dx,fs,v,ex,ea,c,n,l,q⟩=>?_)
  subst ex
  obtain rfl:u=Value.ref a:=rx
  exact getattr_ok I1 ea c n l fun u' s2 I2 ru=>⟨v,H1,I2,ru,q⟩
theorem ps_fld (ha:PE X o ta)(hv:PE X value tv)(hs:swapsWith value (some (.Attribute o f pos')) pos.line X.env=pure false):PS X (.Assign [.Attribute o f pos'] value pos) (sFld X.K ta tv f):=by
  intro pins s σ H D I h
  refine plainObj_wpAny_Assign_Attribute (thn (hv pins s σ H _ I h) fun u s1 ⟨y,H1,I1,ry,q⟩=>thn (ha pins s1 σ H1 _ I1 q) fun ov s2 ⟨x,H2,I2,rx,a,C,dx,fs,ex,ea,c,n,l,q2⟩=>?_) hs
  subst ex
  obtain rfl:ov=Value.ref a:=rx
  exact setattr_ok I2 ea c n l ry fun s3 I3=>⟨σ,_,I3,q2⟩
end
section
variable {X:Cx}{pins:List (Addr × Obj)}{σ:St}{H:Hp}{s:Shared}{A:Around}{E:Value→Shared→Prop}{Q:Value→Shared→Prop}{c:Value}{b:Bool}
inductive TyOf (K:PySem.W.Frag) (H:Hp):V→Value→Prop where
  | non:TyOf K H .non (.type "NoneType")
  | bl (x:Bool):TyOf K H (.bl x) (.type "bool")
  | int (i:Int):TyOf K H (.int i) (.type "int")
  | str (x:Str):TyOf K H (.str x) (.type "str")
  | flt (x:UInt64):TyOf K H (.flt x) (.type "float")
  | lst {a:Addr} {xs:List V} (e:H a=some (.lst xs)):TyOf K H (.ref a) (.type "list")
  | frz {a:Addr} {o:Obj} {xs:List V} (e:H a=some (.frz o (.lst xs))):TyOf K H (.ref a) (.type "list")
  | tup {a:Addr} {xs:List V} (e:H a=some (.tup xs)):TyOf K H (.ref a) (.type "tuple")
  | dK {a:Addr} {kvs:List (Key × V)} (e:H a=some (.dK kvs)):TyOf K H (.ref a) (.type "dict")
  | dT {a:Addr} {kvs:List (List Key × V)} (e:H a=some (.dT kvs)):TyOf K H (.ref a) (.type "dict")
  | ins {a C dx:Addr} {fs:List (Str × V)} (e:H a=some (.ins C dx fs)) (cl:Cls K C) (ha:PySem.W.findIn K (.ref C) "__class__"=some (some (.builtin "object.__class__")))
      (hn:PySem.W.specialIn K (.builtin "object.__class__") "__get__"=some (some (.builtin "getset_descriptor.__get__"))) (htk:PySem.W.takesIn K (.builtin "object.__class__")=some true)
      (hm:PySem.W.mroIn K C (.type "object")=some true):TyOf K H (.ref a) (.ref C)
theorem isinst_ok {x:V}{u t:Value}(I:Inv X pins σ H s)(rx:RelV x u)(ty:TyOf X.K H x t)(e:PySem.W.kitOne X.K t c=some b)(h:∀ tk,Q (.bool b) { s with toks:=tk }) :
    wpAny (model X.prog X.w) A (call (.builtin "isinstance") [u,c]) Q E s:=by
  cases ty with
  | non=>cases (show u=Value.none from rx);exact PySem.W.kia_one PySem.W.kitx_none I.kIn True.intro e (fun z=>nomatch z) h
  | bl y=>cases (show u=Value.bool y from rx);exact PySem.W.kia_one PySem.W.kitx_bool I.kIn True.intro e (fun z=>nomatch z) h
  | int i=>obtain ⟨t,q⟩:=(show ∃ t,u=Value.int i t from rx);cases q;exact PySem.W.kia_one PySem.W.kitx_int I.kIn True.intro e (fun z=>nomatch z) h
  | str y=>obtain ⟨t,q⟩:=(show ∃ t,u=Value.str y t from rx);cases q;exact PySem.W.kia_one PySem.W.kitx_str I.kIn True.intro e (fun z=>nomatch z) h
  | flt y=>obtain ⟨t,q⟩:=(show ∃ t,u=Value.float y t from rx);cases q;exact PySem.W.kia_one PySem.W.kitx_float I.kIn True.intro e (fun z=>nomatch z) h
  | @lst a xs ea =>
    cases (show u=Value.ref a from rx)
    obtain ⟨_,_,n,_,h1⟩:=(show ObjOk X.prog X.w H s.heap a (.lst xs) from I.hok a _ ea)
    exact PySem.W.kia_one PySem.W.kitx_list I.kIn ⟨_,h1,rfl⟩ e (fun z=>nomatch z) h
  | @frz a ob xs ea =>
    cases (show u=Value.ref a from rx)
    obtain ⟨_,_,_,n,_,h1⟩:=(show ObjOk X.prog X.w H s.heap a (.frz ob (.lst xs)) from I.hok a _ ea)
    exact PySem.W.kia_one PySem.W.kitx_list I.kIn ⟨_,h1,rfl⟩ e (fun z=>nomatch z) h
  | @tup a xs ea =>
    cases (show u=Value.ref a from rx)
    obtain ⟨_,_,_,p⟩:=(show ObjOk X.prog X.w H s.heap a (.tup xs) from I.hok a _ ea)
    obtain ⟨o,h1,h2,_⟩:=p
    exact PySem.W.kia_one PySem.W.kitx_tuple I.kIn ⟨o,h1,h2⟩ e (fun z=>nomatch z) h
  | @dK a kvs ea =>
    cases (show u=Value.ref a from rx)
    obtain ⟨_,_,vs,_,p⟩:=(show ObjOk X.prog X.w H s.heap a (.dK kvs) from I.hok a _ ea)
    obtain ⟨o,es,ep,h1,h2,_⟩:=p
    exact PySem.W.kia_one PySem.W.kitx_dict I.kIn ⟨o,h1,h2.1⟩ e (fun z=>nomatch z) h
  | @dT a kvs ea =>
    cases (show u=Value.ref a from rx)
    obtain ⟨_,_,xs,_,o,es,ep,h1,h2,_⟩:=(show ObjOk X.prog X.w H s.heap a (.dT kvs) from I.hok a _ ea)
    exact PySem.W.kia_one PySem.W.kitx_dict I.kIn ⟨o,h1,h2.1⟩ e (fun z=>nomatch z) h
  | @ins a C dx fs ea cl ha hn htk hm =>
    cases (show u=Value.ref a from rx)
    obtain ⟨mA,O,_⟩:=ins_get I.hok ea
    obtain ⟨od,J,_⟩:=O.look
    exact PySem.W.kia_one (PySem.W.kitx_own (cl.get _) cl.hd ha hn htk hm) I.kIn J e (fun z=>nomatch z) h
end
end L2
namespace L2
open PySem PySem.Spec PyProof.Rows
structure Room (k:Nat)(A:Around):Prop where
  hd:A.handled=none
  dp:A.depth+3*k+5<recursionLimit
  un:A.units+16*k+200<cLine
theorem Room.mono {j k:Nat}{A:Around}(r:Room k A)(h:j≤k):Room j A:=⟨r.hd,by have:=r.dp;omega,by have:=r.un;omega⟩
theorem Room.deeper {k:Nat}{A:Around}(r:Room (k+1) A)(env:Env):Room k (A.deeper env) :=
  ⟨r.hd,by have:=r.dp;show A.depth+1+3*k+5<_;omega,by have:=r.un;show A.units+3+16*k+200<_;omega⟩
theorem make_depth {A:Around}{C:Addr}{us:List Value}{kw:List (Str × Value)}:(A.under (.builtin "type.__call__" ⟨.ref C::us,kw⟩)).depth=A.depth+1:=by
  first | rfl | simp [Around.under,Code.weight,Code.isCreation,Code.isGuard,Code.isCaller,Code.frames,Code.isFrame,guardIds]
theorem make_units {A:Around}{C:Addr}{us:List Value}{kw:List (Str × Value)}:(A.under (.builtin "type.__call__" ⟨.ref C::us,kw⟩)).units=A.units+1:=by
  first | rfl | simp [Around.under,Code.cUnits,Code.frames,Code.isFrame]
theorem Room.make {k:Nat}{A:Around}(r:Room (k+1) A)(C:Addr)(us:List Value)(kw:List (Str × Value)):Room k (A.under (.builtin "type.__call__" ⟨.ref C::us,kw⟩)) :=
  ⟨r.hd,by have:=r.dp;rw [make_depth];omega,by have:=r.un;rw [make_units];omega⟩
theorem Room.depth {k:Nat}{A:Around}(r:Room k A):A.depth<recursionLimit:=by have:=r.dp;omega
def tNil:TA:=fun _ H Q=>Q [] H
def tCons (ta:TE)(tr:TA):TA:=fun σ H Q=>ta σ H fun x H1=>tr σ H1 fun xs H2=>Q (x::xs) H2
section
variable {X:Cx}{e:Expr}{es:List Expr}{te:TE}{t:TA}{pos:Pos}
theorem pa_nil:PA X [] tNil:=fun _ _ _ _ H Q I h=>Calls.spliced_nil ⟨[],H,I,.nil,h⟩
theorem pa_cons (ha:PE X e te)(hr:PA X es t)(hs:starEach (e::es) X.env=(false,eval e X.env)::starEach es X.env:=by rfl):PA X (e::es) (tCons te t):=by
  intro pos pins s σ H Q I h
  rw [hs]
  show wpAny _ _ (spliced ((false,eval e X.env)::backTo pos (starEach es X.env))) _ _ s
  refine Calls.spliced_cons (thn (ha pins s σ H _ I h) fun u s1 ⟨x,H1,I1,r1,q1⟩=>?_)
  exact thn (hr pos pins s1 σ H1 _ I1 q1) fun us s2 ⟨xs,H2,I2,r2,q2⟩=>⟨x::xs,H2,I2,.cons r1 r2,q2⟩
def tTup (t:TA):TE:=fun σ H Q=>t σ H fun xs H1=>xs.length≤sizeLine∧∀ p,H1 p=none→Q (.ref p) (upd H1 p (.tup xs))
def tLst (t:TA):TE:=fun σ H Q=>t σ H fun xs H1=>xs.length≤sizeLine∧∀ p,H1 p=none→Q (.ref p) (upd H1 p (.lst xs))
theorem pe_tup {x1}(h:PA X es t):PE X (.Tuple es x1 pos) (tTup t):=by
  intro pins s σ H Q I hq
  refine wpAny_Tuple_spliced (thn (h pos pins s σ H _ I hq) fun us s1 ⟨xs,H1,I1,r,z,q⟩=>⟨by rw [← r.length];exact z,?_⟩)
  have hf:H1 s1.heap.objs.size=none:=I1.hok.fresh (Nat.le_refl _)
  refine ⟨.ref s1.heap.objs.size,upd H1 s1.heap.objs.size (.tup xs),I1.laid (t':=s1.toks) (fun b u e=>Heap.get?_push_of_some _ e) (Nat.le_refl _) ?_,rfl,q _ hf⟩
  exact ⟨z,us,r,⟨_,Heap.get?_push_size _ rfl,rfl,_,rfl⟩⟩
theorem pe_lst (h:PA X es t):PE X (.List es pos) (tLst t):=by
  intro pins s σ H Q I hq
  refine wpAny_List_spliced (thn (h pos pins s σ H _ I hq) fun us s1 ⟨xs,H1,I1,r,z,q⟩=>⟨by rw [← r.length];exact z,?_⟩)
  have hf:H1 s1.heap.objs.size=none:=I1.hok.fresh (Nat.le_refl _)
  refine ⟨.ref s1.heap.objs.size,upd H1 s1.heap.objs.size (.lst xs),I1.laid (t':=s1.toks) (fun b u e=>Heap.get?_push_of_some _ e) (Nat.le_refl _) ?_,rfl,q _ hf⟩
  exact ⟨z,us,0,r,Heap.get?_push_size _ rfl⟩
end
abbrev Sp:=List V→Hp→VK→XK→Prop
abbrev CXT:=List Env→Hp→Shared→XK→Value→Shared→Prop
structure Env0 (P:Program)(w:World)(K:PySem.W.Frag)(mg:Str→Option Value)(base:Heap)(A:Around)(outer:List Env)(s:Shared)(H:Hp):Prop where
  frames:A.frames=some outer
  mod:Mod K mg base
  bs:∀ b o,base.get? b=some o→s.heap.get? b=some o∧H b=none
  bsz:base.objs.size≤s.heap.objs.size
  funs:s.heap.FunFrames base outer
  frf:∀ b∈frs outer,H b=none
  hok:HOk P w H s.heap
  bare:AllBare s.gens
def CE (outer:List Env)(P:Program)(w:World)(H:Hp)(s:Shared)(Q:VK)(u:Value)(s':Shared):Prop :=
  ∃ v H',s'.os=s.os∧AllBare s'.gens∧Un (frs outer) [] H H' s.heap s'.heap∧HOk P w H' s'.heap∧RelV v u∧Q v H'
def CR (CX:CXT)(outer:List Env)(P:Program)(w:World)(H:Hp)(s:Shared)(Q:VK)(E:XK)(r:Result)(s':Shared):Prop :=
  match r with
  | .ok (.ret u)=>CE outer P w H s Q u s'
  | .ok _=>False
  | .error e=>CX outer H s E e s'
structure FnOk (P:Program)(w:World)(K:PySem.W.Frag)(mg:Str→Option Value)(base:Heap)(CX:CXT)(k:Nat)(f:Addr)(fd:FuncData)(ps:List Str)(sp:Sp):Prop where
  len:∀ vs H Q E,sp vs H Q E→vs.length=ps.length
  run:∀ (A:Around) (outer:List Env) (s:Shared) (H:Hp) (args:Args) (us:List Value) (vs:List V) (Q:VK) (E:XK),Room k A→Env0 P w K mg base A outer s H→BindsTo s fd args (ps.zip us)→Vals vs us→sp vs H Q E →
    codeAny (model P w) A (.call (.ref f) args) (CR CX outer P w H s Q E) s
theorem FnOk.mono {P:Program}{w:World}{K:PySem.W.Frag}{mg:Str→Option Value}{base:Heap}{CX:CXT}{j k:Nat}{f:Addr}{fd:FuncData}{ps:List Str}{sp:Sp}(F:FnOk P w K mg base CX j f fd ps sp)(h:j≤k) :
    FnOk P w K mg base CX k f fd ps sp:=⟨F.len,fun A outer s H args us vs Q E hr=>F.run A outer s H args us vs Q E (hr.mono h)⟩
theorem Env0.make {P:Program}{w:World}{K:PySem.W.Frag}{mg:Str→Option Value}{base:Heap}{A:Around}{outer:List Env}{s:Shared}{H:Hp}(e:Env0 P w K mg base A outer s H)(C:Addr)(us:List Value)(kw:List (Str × Value)) :
    Env0 P w K mg base (A.under (.builtin "type.__call__" ⟨.ref C::us,kw⟩)) outer s H:=⟨by first | exact e.frames | (simpa [Around.under,Code.envs,Code.isFrame,pushEnvs] using e.frames),e.mod,e.bs,e.bsz,e.funs,e.frf,e.hok,e.bare⟩
section
variable {X:Cx}{pins:List (Addr × Obj)}{σ:St}{H:Hp}{s s':Shared}
theorem Inv.env0 (I:Inv X pins σ H s):Env0 X.prog X.w X.K X.mg X.base X.A X.stack s H :=
  ⟨I.ok.frames,I.ok.mod,I.bs,Nat.le_trans I.ok.bsz I.sz,I.stack,I.stkFree,I.hok,I.bare⟩
theorem Inv.after {Q:VK}{u:Value}(I:Inv X pins σ H s)(h:CE X.stack X.prog X.w H s Q u s'):EP X pins σ Q u s':=by
  obtain ⟨v,H',os,bare,un,hok,r,q⟩:=h
  obtain ⟨hh,g,d,t,os'⟩:=s'
  obtain rfl:os'=s.os:=os
  exact ⟨v,H',I.call (h':=hh) (g':=g) (d':=d) (t':=t) (ch:=[]) un hok bare (fun b z=>absurd z (by simp)),r,q⟩
end
def tCall (sp:Sp)(dvs:List V)(E:XK)(t:TA):TE:=fun σ H Q=>t σ H fun vs H1=>sp (vs++dvs) H1 Q E
def tMake (C:Addr)(sp:Sp)(dvs:List V)(E:XK)(t:TA):TE:=fun σ H Q=>t σ H fun vs H1=>∀ x dx,H1 x=none→H1 dx=none→dx≠x →
  sp (.ref x::(vs++dvs)) (upd (upd H1 dx (.own x)) x (.ins C dx [])) (fun v H2=>v=.non∧Q (.ref x) H2) E
def Binds (K:PySem.W.Frag)(fd:FuncData)(ps:List Str)(ds:List Value):Prop :=
  ∀ (s:Shared) (us:List Value),K.In s.heap→(us++ds).length=ps.length→BindsTo s fd ⟨us,[]⟩ (ps.zip (us++ds))
theorem Binds.all {K:PySem.W.Frag}{fd:FuncData}{ps:List Str}(h:∀ us:List Value,us.length=ps.length→bindArgs fd ⟨us,[]⟩=pure (ps.zip us)):Binds K fd ps []:=fun s us _ hl=>by
  rw [List.append_nil] at hl ⊢
  exact .of_eq (h us hl)
def Passes (CX:CXT)(X:Cx)(E:XK):Prop:=∀ (pins:List (Addr × Obj)) (σ:St) (H:Hp) (s:Shared) (e:Value) (s':Shared),Inv X pins σ H s→CX X.stack H s E e s'→X.xe e s'
section
variable {X:Cx}{CX:CXT}{k:Nat}{f C:Addr}{fd:FuncData}{ps:List Str}{sp:Sp}{dvs:List V}{ds:List Value}{E:XK}{x m:Str}{p pos apos:Pos}{e o:Expr}{es:List Expr}{ta:TE}{t:TA}
theorem run_fn {pins:List (Addr × Obj)}{σ:St}{H:Hp}{s:Shared}{Q:VK}{us:List Value}{vs:List V}(F:FnOk X.prog X.w X.K X.mg X.base CX k f fd ps sp)(hr:Room k X.A)(hb:Binds X.K fd ps ds)(hd:Vals dvs ds)(hx:Passes CX X E)
    (I:Inv X pins σ H s) (r:Vals vs us) (h:sp (vs++dvs) H Q E):wpAny (model X.prog X.w) X.A (call (.ref f) us) (EP X pins σ Q) X.xe s:=by
  have r2:Vals (vs++dvs) (us++ds):=r.append hd
  have hl:(us++ds).length=ps.length:=by rw [← r2.length];exact F.len _ _ _ _ h
  refine wpAny_call (codeAny_mono (F.run X.A X.stack s H ⟨us,[]⟩ (us++ds) (vs++dvs) Q E hr I.env0 (hb s us I.kIn hl) r2 h) fun r s' hq=>?_)
  cases r with
  | error e=>exact hx pins σ H s e s' I hq
  | ok fl =>
    cases fl with
    | ret u=>exact I.after hq
    | next=>exact False.elim hq
    | brk=>exact False.elim hq
    | cont=>exact False.elim hq
theorem pe_call (F:FnOk X.prog X.w X.K X.mg X.base CX k f fd ps sp)(hr:Room k X.A)(hg:Gl X x)(hm:X.mg x=some (.ref f))(hk:PySem.W.keepIn X.K (.ref f)=true)(hb:Binds X.K fd ps ds)(hd:Vals dvs ds)(hx:Passes CX X E)
    (ha:PA X (e::es) t) (hdb:(x==("__debug__":Str))=false:=by decide) (he:starEach (e::es) X.env=(false,eval e X.env)::starEach es X.env:=by rfl) (hpl:(backTo pos (starEach es X.env)).any (·.1)=false:=by rfl) :
    PE X (.Call (.Name x p) (e::es) [] pos) (tCall sp dvs E t):=by
  intro pins s σ H Q I h
  refine wpAny_Call_Name_kw (ld_glob I hg hm ?_ hdb)
  refine PySem.W.callWith_K (h₀:=X.base) I.ok.mod.kin hk (thn (ha pos pins s σ H _ I h) fun us s1 ⟨vs,H1,I1,r,q⟩=>⟨I1.kIn,?_⟩) he hpl
  exact run_fn F hr hb hd hx I1 r q
structure Mk (K:PySem.W.Frag)(C f:Addr):Prop where
  makes:PySem.W.makesIn K C=true
  init:PySem.W.findIn K (.ref C) "__init__"=some (some (.ref f))
  fn:PySem.W.isFn K (.ref f)=true
  kp:PySem.W.keepIn K (.ref C)=true
theorem run_make {pins:List (Addr × Obj)}{σ:St}{H:Hp}{s:Shared}{Q:VK}{us:List Value}{vs:List V}(M:Mk X.K C f)(F:FnOk X.prog X.w X.K X.mg X.base CX k f fd ps sp)(hr:Room (k+1) X.A)(hb:Binds X.K fd ps ds)(hd:Vals dvs ds)
    (hx:Passes CX X E) (I:Inv X pins σ H s) (r:Vals vs us)
    (h:∀ x dx,H x=none→H dx=none→dx≠x→sp (.ref x::(vs++dvs)) (upd (upd H dx (.own x)) x (.ins C dx [])) (fun v H2=>v=.non∧Q (.ref x) H2) E) :
    wpAny (model X.prog X.w) X.A (call (.ref C) us) (EP X pins σ Q) X.xe s:=by
  have hq:=h (s.heap.objs.size+1) s.heap.objs.size (I.hok.fresh (Nat.le_succ _)) (I.hok.fresh (Nat.le_refl _)) (Nat.ne_of_lt (Nat.lt_succ_self _))
  have I2:=Inv.made (C:=C) I
  have r2:Vals (V.ref (s.heap.objs.size+1)::(vs++dvs)) (Value.ref (s.heap.objs.size+1)::(us++ds)):=.cons rfl (r.append hd)
  have hl:(Value.ref (s.heap.objs.size+1)::us++ds).length=ps.length:=by
    have e:=r2.length
    rw [F.len _ _ _ _ hq] at e
    exact e.symm
  refine wpAny_call (make_map (f:=f) I.kIn M.makes M.init (beq_iff_eq.mp M.fn) (codeAny_mono (F.run _ X.stack _ _ ⟨Value.ref (s.heap.objs.size+1)::us,[]⟩ (Value.ref (s.heap.objs.size+1)::(us++ds)) _ _ E (hr.make C us [])
    (I2.env0.make C us []) (hb _ (Value.ref (s.heap.objs.size+1)::us) I2.kIn hl) r2 hq) fun r s' hq'=>?_))
  cases r with
  | error e=>exact hx pins σ _ _ e s' I2 hq'
  | ok fl =>
    cases fl with
    | ret u =>
      obtain ⟨v,H',I3,rv,ev,q3⟩:=I2.after hq'
      subst ev
      exact ⟨rv,⟨V.ref (s.heap.objs.size+1),H',I3,rfl,q3⟩⟩
    | next=>exact False.elim hq'
    | brk=>exact False.elim hq'
    | cont=>exact False.elim hq'
theorem pe_make (M:Mk X.K C f)(F:FnOk X.prog X.w X.K X.mg X.base CX k f fd ps sp)(hr:Room (k+1) X.A)(hg:Gl X x)(hm:X.mg x=some (.ref C))(hb:Binds X.K fd ps ds)(hd:Vals dvs ds)(hx:Passes CX X E)
    (ha:PA X (e::es) t) (hdb:(x==("__debug__":Str))=false:=by decide) (he:starEach (e::es) X.env=(false,eval e X.env)::starEach es X.env:=by rfl) (hpl:(backTo pos (starEach es X.env)).any (·.1)=false:=by rfl) :
    PE X (.Call (.Name x p) (e::es) [] pos) (tMake C sp dvs E t):=by
  intro pins s σ H Q I h
  refine wpAny_Call_Name_kw (ld_glob I hg hm ?_ hdb)
  refine PySem.W.callWith_K (h₀:=X.base) I.ok.mod.kin M.kp (thn (ha pos pins s σ H _ I h) fun us s1 ⟨vs,H1,I1,r,q⟩=>⟨I1.kIn,?_⟩) he hpl
  exact run_make M F hr hb hd hx I1 r q
end
def PK (X:Cx)(kws:List Keyword)(t:TA):Prop :=
  ∀ (pos:Pos) (pins:List (Addr × Obj)) (s:Shared) (σ:St) (H:Hp) (Q:List V→Hp→Prop),Inv X pins σ H s→t σ H Q→wpAny (model X.prog X.w) X.A (evalAll ((backToKw pos (keywordEach kws X.env)).map (·.2))) (AP X pins σ Q) X.xe s
section
variable {X:Cx}{CX:CXT}{k:Nat}{f C:Addr}{fd:FuncData}{ps ks:List Str}{sp:Sp}{E:XK}{x m:Str}{p pos apos kpos:Pos}{e o:Expr}{es:List Expr}{kws:List Keyword}{te ta:TE}{t tk:TA}{nm:Option Str}
theorem pk_nil:PK X [] tNil:=fun _ _ _ _ H Q I h=>wpAny_evalAll_nil ⟨[],H,I,.nil,h⟩
theorem pk_cons (ha:PE X e te)(hr:PK X kws t):PK X (⟨nm,e,kpos⟩::kws) (tCons te t):=by
  intro pos pins s σ H Q I h
  show wpAny _ _ (evalAll ((do let v ← eval e X.env;standAt pos;pure v)::(backToKw pos (keywordEach kws X.env)).map (·.2))) _ _ s
  refine wpAny_evalAll_cons (wpAny_bind (thn (ha pins s σ H _ I h) fun u s1 ⟨x,H1,I1,r1,q1⟩=>wpAny_bind (wpAny_standAt (wpAny_pure ?_))))
  exact thn (hr pos pins s1 σ H1 _ I1 q1) fun us s2 ⟨xs,H2,I2,r2,q2⟩=>⟨x::xs,H2,I2,.cons r1 r2,q2⟩
structure KBinds (K:PySem.W.Frag)(fd:FuncData)(ps ks:List Str)(g:List Value→List Value→List Value)(gV:List V→List V→List V):Prop where
  to:∀ (s:Shared) (us ws:List Value),K.In s.heap→(g us ws).length=ps.length→BindsTo s fd ⟨us,ks.zip ws⟩ (ps.zip (g us ws))
  rel:∀ {vs:List V} {us:List Value} {zs:List V} {ws:List Value},Vals vs us→Vals zs ws→Vals (gV vs zs) (g us ws)
variable {g:List Value→List Value→List Value}{gV:List V→List V→List V}
end
structure FnScope (N P:List Str)(sc:Scope):Prop where
  kind:sc.kind=.function
  co:sc.isCoroutine=false
  gen:sc.isGenerator=false
  nd:N.Nodup
  pre:N.take P.length=P
  par:∀ x∈P,sc.names.lookup x=some .local∨sc.names.lookup x=some .cell
  nofree:∀ y∈sc.names,y.2≠.free
theorem bindL_out {kindOf:Str→Option NameKind}{x:Str}:∀ {binds:List (Str × Value)} {m:Str→Option Value},(∀ v,(x,v)∉binds)→bindL kindOf binds m x=m x
  | [],_,_=>rfl
  | (n,v)::r,m,h=>by
    unfold bindL
    rw [bindL_out fun w hw=>h w (List.mem_cons_of_mem _ hw)]
    split
    · have:x≠n:=by rintro rfl;exact h v List.mem_cons_self
      simp [this]
    · rfl
theorem bindC_out {kindOf:Str→Option NameKind}{x:Str}:∀ {binds:List (Str × Value)} {m:Str→Option Value},(∀ v,(x,v)∉binds)→bindC kindOf binds m x=m x
  | [],_,_=>rfl
  | (n,v)::r,m,h=>by
    unfold bindC
    rw [bindC_out fun w hw=>h w (List.mem_cons_of_mem _ hw)]
    split
    · rfl
    · have:x≠n:=by rintro rfl;exact h v List.mem_cons_self
      simp [this]
theorem bindL_get {kindOf:Str→Option NameKind}{x:Str}{v:Value}:∀ {P:List Str} {vs:List Value} {i:Nat} {m:Str→Option Value},P.Nodup→P[i]?=some x→vs[i]?=some v→kindOf x=some .local →
    bindL kindOf (P.zip vs) m x=some v
  | [],_,_,_,_,h,_,_=>by simp at h
  | _::_,[],_,_,_,_,h,_=>by simp at h
  | p::P,w::vs,0,m,nd,h1,h2,hk=>by
    simp at h1 h2;subst h1;subst h2
    show bindL kindOf ((p,w)::P.zip vs) m p=_
    unfold bindL
    rw [bindL_out fun v hv=>(List.nodup_cons.mp nd).1 (List.of_mem_zip hv).1,if_pos hk]
    simp
  | p::P,w::vs,i+1,m,nd,h1,h2,hk=>by
    show bindL kindOf ((p,w)::P.zip vs) m x=_
    unfold bindL
    exact bindL_get (i:=i) (List.nodup_cons.mp nd).2 (by simpa using h1) (by simpa using h2) hk
theorem bindC_get {kindOf:Str→Option NameKind}{x:Str}{v:Value}:∀ {P:List Str} {vs:List Value} {i:Nat} {m:Str→Option Value},P.Nodup→P[i]?=some x→vs[i]?=some v→kindOf x≠some .local →
    bindC kindOf (P.zip vs) m x=some v
  | [],_,_,_,_,h,_,_=>by simp at h
  | _::_,[],_,_,_,_,h,_=>by simp at h
  | p::P,w::vs,0,m,nd,h1,h2,hk=>by
    simp at h1 h2;subst h1;subst h2
    show bindC kindOf ((p,w)::P.zip vs) m p=_
    unfold bindC
    rw [bindC_out fun v hv=>(List.nodup_cons.mp nd).1 (List.of_mem_zip hv).1,if_neg hk]
    simp
  | p::P,w::vs,i+1,m,nd,h1,h2,hk=>by
    show bindC kindOf ((p,w)::P.zip vs) m x=_
    unfold bindC
    exact bindC_get (i:=i) (List.nodup_cons.mp nd).2 (by simpa using h1) (by simpa using h2) hk
def start (N:List Str)(vs:List V):St:=vs.map some++List.replicate (N.length-vs.length) none
def cxOf (CX:CXT)(P:Program)(w:World)(K:PySem.W.Frag)(mg:Str→Option Value)(base:Heap)(N:List Str)(qual:Str)(scope:Scope)(f:Addr)(cd:Value)(A:Around)(outer:List Env)(s:Shared)(H:Hp)(E:XK):Cx where
  prog:=P
  w:=w
  K:=K
  mg:=mg
  base:=base
  A:=A.deeper (envOfC qual scope s.heap.objs.size f cd)
  N:=N
  s₀:=s
  H₀:=H
  env:=envOfC qual scope s.heap.objs.size f cd
  outer:=outer
  stack:=envOfC qual scope s.heap.objs.size f cd::outer
  ex:=[]
  calm:=true
  fn:=fun _=>true
  pn:=[]
  xe:=fun e s'=>wpAny (model P w) (A.deeper (envOfC qual scope s.heap.objs.size f cd)) (leaving (envOfC qual scope s.heap.objs.size f cd) e) (fun _ s''=>CX outer H s E e s'') (fun e' s''=>CX outer H s E e' s'') s'
theorem cell_has {sc:Scope}{n:Nat}{x:Str}(h:sc.names.lookup x=some .cell):∃ c,(cellsFrom n sc.names []).lookup x=some c:=by
  have q:=PySem.W.cellsFrom_some sc.names n [] (.inl h)
  exact Option.isSome_iff_exists.mp q
theorem inv_start {CX:CXT} {P:Program} {w:World} {K:PySem.W.Frag} {mg:Str→Option Value} {base:Heap} {N ps:List Str} {qual:Str} {scope:Scope} {f:Addr} {cd:Value} {A:Around} {outer:List Env} {s s1:Shared} {H:Hp} {E:XK} {us:List Value} {vs:List V}
    (S:FnScope N ps scope) (hd:A.handled=none) (e0:Env0 P w K mg base A outer s H) (hl:vs.length=ps.length) (r:Vals vs us)
    (x:InCallC s s.heap.objs.size (bindL (envOfC qual scope s.heap.objs.size f cd).kindOf (ps.zip us) fun _=>none) (cellsFrom (s.heap.objs.size+1) scope.names []) (bindC (envOfC qual scope s.heap.objs.size f cd).kindOf (ps.zip us) fun _=>none) s1) :
    Inv (cxOf CX P w K mg base N qual scope f cd A outer s H E) [] (start N vs) H s1:=by
  have hpl:ps.length≤N.length:=by have:=congrArg List.length S.pre;rw [List.length_take] at this;omega
  obtain ⟨h1,tk,rfl,hk⟩:=x.done
  have noA:∀ b:Addr,b∉(cxOf CX P w K mg base N qual scope f cd A outer s H E).ex:=fun b z=>absurd (show b∈([]:List Addr) from z) (by simp)
  refine ⟨⟨e0.mod,S.kind,rfl,rfl,Nat.le_refl _,fun y z c h1 h2=>?_,fun y hy=>?_,fun y c _ h=>?_,fun _=>hd,Around.frames_deeper e0.frames,.inr ⟨rfl,rfl⟩,fun b z=>absurd z (noA b),e0.bs,e0.bsz,fun b _ _=>noA b,fun b z=>absurd z (noA b),e0.funs,e0.frf⟩,
    rfl,e0.bare,Un.kept hk,⟨_,x.toInCall.ns,fun i y v h1 h2 h3=>?_⟩,fun y c h=>⟨_,x.cell y c h⟩,e0.hok.fresh (Nat.le_refl _),fun y c h=>?_,fun p hp=>absurd (show p∈([]:List (Addr × Obj)) from hp) (by simp),e0.hok.kept hk,?_⟩
  · exact name_of_addr x.apart (PySem.mem_of_lookup h1) (PySem.mem_of_lookup h2)
  · have hy:scope.names.lookup y=some .cell∨scope.names.lookup y=some .free:=hy
    rcases hy with hy | hy
    · exact cell_has hy
    · exact absurd rfl (S.nofree _ (PySem.mem_of_lookup hy))
  · exact Nat.le_of_lt (x.above y c (PySem.mem_of_lookup h))
  · have hi:i<vs.length:=by
      unfold start at h2
      by_cases hi:i<vs.length
      · exact hi
      · rw [List.getElem?_append_right (by simpa using hi)] at h2
        rw [List.getElem?_replicate] at h2
        split at h2<;>cases h2
    have ha:vs[i]?=some v:=by
      unfold start at h2
      rw [List.getElem?_append_left (by simpa using hi),List.getElem?_map] at h2
      cases e:vs[i]? with
      | none=>rw [e] at h2;cases h2
      | some a=>rw [e] at h2;cases h2;rfl
    obtain ⟨u,hu,rv⟩:=r.get ha
    have hp:ps[i]?=some y:=by
      rw [← S.pre,List.getElem?_take_of_lt (by omega)];exact h1
    have ndP:ps.Nodup:=by rw [← S.pre];exact S.nd.sublist (List.take_sublist _ _)
    refine ⟨u,rv,?_⟩
    rcases S.par y (List.mem_of_getElem? hp) with k | k
    · exact .inl ⟨k,bindL_get ndP hp hu k⟩
    · obtain ⟨c,e⟩:=cell_has (n:=s.heap.objs.size+1) k
      refine .inr ⟨.inl k,c,e,?_⟩
      have q:=x.cell y c e
      rw [bindC_get ndP hp hu (by show scope.names.lookup y≠_;rw [k];decide)] at q
      exact q
  · exact e0.hok.fresh (Nat.le_of_lt (x.above y c (PySem.mem_of_lookup h)))
  · unfold start
    show _=N.length
    rw [List.length_append,List.length_map,List.length_replicate]
    omega
theorem fn_of {CX:CXT}{P:Program}{w:World}{K:PySem.W.Frag}{mg:Str→Option Value}{base:Heap}{k:Nat}{f:Addr}{name qual:Str}{params:Arguments}{body:List Stmt}{scope:Scope}{dV kV doc pm cdv ct oc:Value}{an od:Option Addr}
    {osl:Array (Option Value)} {N ps:List Str} {sp:Sp} (lk:K.lookup f=some ⟨oc,od,.func (PySem.W.fnOf name qual params body scope dV kV doc pm an cdv ct),osl⟩) (hcd:PySem.W.codeIn K cdv qual=true) (S:FnScope N ps scope)
    (len:∀ vs H Q E,sp vs H Q E→vs.length=ps.length)
    (hbody:∀ (A:Around) (outer:List Env) (s:Shared) (H:Hp) (vs:List V) (Q:VK) (E:XK),Room k (A.deeper (envOfC qual scope s.heap.objs.size f cdv))→sp vs H Q E →
      ∃ t,PSs (cxOf CX P w K mg base N qual scope f cdv A outer s H E) body t∧t { nx:=fun _ H'=>Q .non H',rt:=Q } (start N vs) H) :
    FnOk P w K mg base CX (k+1) f (PySem.W.fnOf name qual params body scope dV kV doc pm an cdv ct) ps sp:=by
  refine ⟨len,fun A outer s H args us vs Q E hr e0 hb r hsp=>?_⟩
  have hl:=len _ _ _ _ hsp
  have KX:K.In s.heap:=e0.mod.kin.keeps fun b o e=>(e0.bs b o e).1
  have lim:s.heap.NoLimit:=e0.mod.nolimit.keeps fun b o e=>(e0.bs b o e).1
  have hkind:∀ y∈ps.zip us,scope.names.lookup y.1=some .local∨(scope.names.lookup y.1=some .cell∧((cellsFrom (s.heap.objs.size+1) scope.names []).lookup y.1).isSome=true):=fun ⟨n,v⟩ hy=>by
    rcases S.par n (List.of_mem_zip hy).1 with q | q
    · exact .inl q
    · exact .inr ⟨q,PySem.W.cellsFrom_some _ _ _ (.inl q)⟩
  refine codeAny_call_function hr.depth (KX _ _ lk) rfl S.co S.gen rfl (PySem.W.codeRec_of KX hcd) (hb _ _ _ _ ?_)
  refine wpAny_newFunctionEnv_cells S.kind hkind fun env he s1 x=>?_
  subst he
  refine ⟨lim.keeps x.toInCall.keep,codeAny_func ?_⟩
  obtain ⟨t,ht,hq⟩:=hbody A outer s H vs Q E (hr.deeper _) hsp
  have I:Inv (cxOf CX P w K mg base N qual scope f cdv A outer s H E) [] (start N vs) H s1:=inv_start S hr.hd e0 hl r x
  refine wpAny_mono (ht [] s1 (start N vs) H _ I hq) (fun fl s' hs=>?_) fun e s' hs=>hs
  have fin:∀ {σ':St} {H':Hp} {v:V} {u:Value},Inv (cxOf CX P w K mg base N qual scope f cdv A outer s H E) [] σ' H' s'→RelV v u→Q v H'→CE outer P w H s Q u s' :=
    fun {σ' H' v u} J rv q=>⟨v,H',J.os,J.bare,J.base,J.hok,rv,q⟩
  cases fl with
  | ret u =>
    obtain ⟨v,σ',H',J,rv,q⟩:=hs
    exact fin J rv q
  | next =>
    obtain ⟨σ',H',J,q⟩:=hs
    exact fin (v:=V.non) (u:=Value.none) J rfl q
  | brk =>
    obtain ⟨_,_,_,q⟩:=hs
    exact False.elim q
  | cont =>
    obtain ⟨_,_,_,q⟩:=hs
    exact False.elim q
end L2
namespace L2
open PySem PySem.Spec PyProof.Rows
section
variable {X:Cx}{x:Str}{p pos:Pos}{e:Expr}{es:List Expr}{t:TA}{id T:String}{r:List V→Hp→VK→Prop}
def tCB (r:List V→Hp→VK→Prop)(t:TA):TE:=fun σ H Q=>t σ H fun vs H1=>r vs H1 Q
theorem pe_callB (hc:CallR X (.builtin id) r)(hg:Gl X x)(hm:X.mg x=none)(hv:bootBuiltins x=some (.builtin id))(ha:PA X (e::es) t)(hn:x≠"__name__":=by decide)(hdb:(x==("__debug__":Str))=false:=by decide)
    (he:starEach (e::es) X.env=(false,eval e X.env)::starEach es X.env:=by rfl) (hpl:(backTo pos (starEach es X.env)).any (·.1)=false:=by rfl):PE X (.Call (.Name x p) (e::es) [] pos) (tCB r t):=by
  intro pins s σ H Q I h
  refine wpAny_Call_Name_kw (ld_blt I hg hm hv ?_ hn hdb)
  exact PyProof.Rows.callWith_builtin1 (thn (ha pos pins s σ H _ I h) fun us s1 ⟨vs,H1,I1,r1,q1⟩=>hc pins s1 σ H1 vs us Q I1 r1 q1) he hpl
theorem pe_callTy (hc:CallR X (.type T) r)(hg:Gl X x)(hm:X.mg x=none)(hv:bootBuiltins x=some (.type T))(ha:PA X (e::es) t)(hn:x≠"__name__":=by decide)(hdb:(x==("__debug__":Str))=false:=by decide)
    (he:starEach (e::es) X.env=(false,eval e X.env)::starEach es X.env:=by rfl) (hpl:(backTo pos (starEach es X.env)).any (·.1)=false:=by rfl):PE X (.Call (.Name x p) (e::es) [] pos) (tCB r t):=by
  intro pins s σ H Q I h
  refine wpAny_Call_Name_kw (ld_blt I hg hm hv ?_ hn hdb)
  exact PyProof.Rows.callWith_type1 (thn (ha pos pins s σ H _ I h) fun us s1 ⟨vs,H1,I1,r1,q1⟩=>hc pins s1 σ H1 vs us Q I1 r1 q1) he hpl
end
end L2
namespace HT
open PySem PyProof.Rows
section
open PySem.SeqAt
open PySem.AutoSeq1 (wpAny_loadPart')
open PySem.MeetsSeq PySem.MeetsSeq2 PySem.MeetsSeq3
end
section
variable {prog:Program}{w:World}{A:Around}{E:Value→Shared→Prop}{s:Shared}
def sIx (n d:Nat):Option Int→Nat
  | none=>d
  | some v=>if v<0 then (v+(n:Int)).toNat else min v.toNat n
theorem sIx_nat (n d k:Nat):sIx n d (some (k:Int))=min k n:=by
  show (if (k:Int)<0 then ((k:Int)+(n:Int)).toNat else min (k:Int).toNat n)=min k n
  rw [if_neg (by omega),Int.toNat_natCast]
end
end HT
namespace L2
open PySem PySem.Spec PyProof.Rows
abbrev TO:=St→Hp→(Option Int→Hp→Prop)→Prop
def PO (X:Cx) (e:Option Expr) (t:TO):Prop :=
  ∀ (pins:List (Addr × Obj)) (s:Shared) (σ:St) (H:Hp) (Q:Option Int→Hp→Prop),Inv X pins σ H s→t σ H Q →
    wpAny (model X.prog X.w) X.A (evalPart e X.env) (fun u s'=>∃ o H',Inv X pins σ H' s'∧IsPart u o∧Q o H') X.xe s
def tNoPart:TO:=fun _ H Q=>Q none H
def tPart (t:TE):TO:=fun σ H Q=>t σ H fun x H1=>∃ i,x=.int i∧Q (some i) H1
section
variable {X:Cx}{e:Expr}{te:TE}{lo hi:Option Expr}{tl th:TO}{pos p2:Pos}
theorem po_none:PO X none tNoPart:=by
  intro pins s σ H Q I h
  rw [evalPart_none]
  exact wpAny_pure ⟨none,H,I,.none,h⟩
theorem po_some (h:PE X e te):PO X (some e) (tPart te):=by
  intro pins s σ H Q I hw
  rw [evalPart_some]
  refine thn (h pins s σ H _ I hw) fun u s1 ⟨x,H1,I1,r1,q1⟩=>?_
  obtain ⟨i,rfl,q⟩:=q1
  obtain ⟨t,rfl⟩:=r1
  exact ⟨some i,H1,I1,.int i t,q⟩
def SlR (X:Cx) (r:V→Option Int→Option Int→Hp→VK→Prop):Prop :=
  ∀ (pins:List (Addr × Obj)) (s:Shared) (σ:St) (H:Hp) (x:V) (v vl vu:Value) (lo hi:Option Int) (sl:Addr) (Q:VK),Inv X pins σ H s→RelV x v→s.heap.IsSliceOf sl vl vu .none→IsPart vl lo→IsPart vu hi→r x lo hi H Q →
    ∃ T id,typeLookup (.type T) "__getitem__"=pure (some (.builtin id))∧s.TypeIs v T∧wpAny (model X.prog X.w) X.A (getItem v (.ref sl)) (EP X pins σ Q) X.xe s
def tSl (r:V→Option Int→Option Int→Hp→VK→Prop)(te:TE)(tl th:TO):TE:=fun σ H Q=>te σ H fun x H1=>tl σ H1 fun l H2=>th σ H2 fun u H3=>r x l u H3 Q
theorem pe_slice {r:V→Option Int→Option Int→Hp→VK→Prop}(hr:SlR X r)(he:PE X e te)(hl:PO X lo tl)(hu:PO X hi th):PE X (.Subscript e (.Slice lo hi none p2) pos) (tSl r te tl th):=by
  intro pins s σ H Q I h
  refine Subscript_ (thn (he pins s σ H _ I h) fun v s1 ⟨x,H1,I1,r1,q1⟩=>?_)
  refine wpAny_Slice (thn (hl pins s1 σ H1 _ I1 q1) fun vl s2 ⟨l,H2,I2,pl,q2⟩=>thn (hu pins s2 σ H2 _ I2 q2) fun vu s3 ⟨u,H3,I3,pu,q3⟩=>?_)
  rw [evalPart_none]
  refine wpAny_pure ?_
  have I4:Inv X pins σ H3 { s3 with heap:=s3.heap.push { cls:=.type "slice",data:=.fields #[vl,vu,.none] } }:=I3.kept (t':=s3.toks) fun b ob q=>Heap.get?_push_of_some _ q
  obtain ⟨T,id,hT,ht,hg⟩:=hr pins { s3 with heap:=s3.heap.push { cls:=.type "slice",data:=.fields #[vl,vu,.none] } } σ H3 x v vl vu l u s3.heap.objs.size Q I4 r1 (Heap.IsSliceOf.new ..) pl pu q3
  show wpAny (model X.prog X.w) X.A (subscriptTail e (.Slice lo hi none p2) v (.ref s3.heap.objs.size)) (EP X pins σ Q) X.xe { s3 with heap:=s3.heap.push { cls:=.type "slice",data:=.fields #[vl,vu,.none] } }
  exact tail_any (ops:=[.ref s3.heap.objs.size,v]) ht hT hg (by with_unfolding_all rfl)
def cutV (xs:List V)(lo hi:Option Int):List V:=(xs.drop (HT.sIx xs.length 0 lo)).take (HT.sIx xs.length xs.length hi-HT.sIx xs.length 0 lo)
theorem cutV_length (xs:List V)(lo hi:Option Int):(cutV xs lo hi).length≤xs.length:=by
  unfold cutV
  rw [List.length_take,List.length_drop]
  omega
end
end L2
namespace L2
open PySem PySem.Spec PyProof.Rows
def ixN (n:Nat)(i:Int):Option Nat:=if 0≤i then (if i<n then some i.toNat else none) else if -(n:Int)≤i then some (i+n).toNat else none
def atI {α:Type}(xs:List α)(i:Int):Option α:=(ixN xs.length i).bind fun j=>xs[j]?
theorem ixN_seq {n:Nat}{i:Int}{j:Nat}(h:ixN n i=some j):seqIndex? i n=some j∧j<n∧-(n:Int)≤i∧i<n:=by
  unfold ixN at h
  by_cases h0:0≤i
  · rw [if_pos h0] at h
    by_cases h1:i<n
    · rw [if_pos h1] at h
      have e:i.toNat=j:=Option.some.inj h
      exact ⟨by rw [seqIndex_of h0 h1,e],by omega,by omega,h1⟩
    · rw [if_neg h1] at h;cases h
  · rw [if_neg h0] at h
    by_cases h1:-(n:Int)≤i
    · rw [if_pos h1] at h
      have e:(i+n).toNat=j:=Option.some.inj h
      exact ⟨by rw [seqIndex_neg (by omega) h1,e],by omega,h1,by omega⟩
    · rw [if_neg h1] at h;cases h
theorem atI_get {α:Type}{xs:List α}{i:Int}{v:α}(h:atI xs i=some v):∃ j,seqIndex? i xs.length=some j∧xs[j]?=some v∧j<xs.length∧-(xs.length:Int)≤i∧i<xs.length:=by
  unfold atI at h
  cases e:ixN xs.length i with
  | none=>rw [e] at h;cases h
  | some j =>
    rw [e] at h
    obtain ⟨h1,h2,h3,h4⟩:=ixN_seq e
    exact ⟨j,h1,h,h2,h3,h4⟩
theorem atI_nat {α:Type}{xs:List α}{j:Nat}{v:α}(h:xs[j]?=some v):atI xs (j:Int)=some v:=by
  have hj:j<xs.length:=(List.getElem?_eq_some_iff.mp h).1
  have e:ixN xs.length (j:Int)=some j:=by
    unfold ixN
    rw [if_pos (by omega),if_pos (by omega)];simp
  unfold atI;rw [e];exact h
theorem atI_last {α:Type}(xs:List α)(v:α):atI (xs++[v]) (-1)=some v:=by
  have hl:(xs++[v]).length=xs.length+1:=by simp
  have e:ixN (xs++[v]).length (-1)=some xs.length:=by
    unfold ixN
    rw [hl,if_neg (by decide),if_pos (by omega)]
    congr 1
    omega
  unfold atI
  rw [e]
  show (xs++[v])[xs.length]?=some v
  simp
def PlainIx (b:Expr):Prop:=∀ o i,subscripted b false o i=operate [o,i] (getItem o i)
def IxR (X:Cx) (r:R2):Prop :=
  ∀ (value slice:Expr) (pins:List (Addr × Obj)) (s:Shared) (σ:St) (H:Hp) (x y:V) (v u:Value) (Q:VK),Inv X pins σ H s→RelV x v→RelV y u→r x y H Q →
    subscripted slice false v u=operate [v,u] (getItem v u)→wpAny (model X.prog X.w) X.A (subscriptTail value slice v u) (EP X pins σ Q) X.xe s
def MtR (X:Cx) (id:String) (r:V→List V→Hp→VK→Prop):Prop :=
  ∀ (pins:List (Addr × Obj)) (s:Shared) (σ:St) (H:Hp) (x:V) (xs:List V) (v:Value) (us:List Value) (Q:VK),Inv X pins σ H s→RelV x v→Vals xs us→r x xs H Q →
    wpAny (model X.prog X.w) X.A (call (.builtin id) (v::us)) (EP X pins σ Q) X.xe s
section
variable {X:Cx}{a b:Expr}{ta tb:TE}{pos:Pos}
theorem pe_ix {r:R2}(hr:IxR X r)(ha:PE X a ta)(hb:PE X b tb)(hs:PlainIx b):PE X (.Subscript a b pos) (tOp r ta tb):=by
  intro pins s σ H Q I h
  exact Subscript_ (binT ha hb I h fun v u s2 x y H2 I2 rx ry q=>hr a b pins s2 σ H2 x y v u Q I2 rx ry q (hs _ _))
def rIxL (K:PySem.W.Frag):R2:=fun x y H Q=>∃ p xs i v,x=.ref p∧y=.int i∧SqL K H p xs∧atI xs i=some v∧Q v H
def rIxT (K:PySem.W.Frag):R2:=fun x y H Q=>∃ p xs i v,x=.ref p∧y=.int i∧SqT K H p xs∧atI xs i=some v∧Q v H
def rIxS:R2:=fun x y H Q=>∃ z i c,x=.str z∧y=.int i∧z.length≤sizeLine∧atI z.cps.toList i=some c∧Q (.str ⟨#[c]⟩) H
theorem ix_list:IxR X (rIxL X.K):=by
  intro value slice pins s σ H x y v u Q I rx ry h hs
  obtain ⟨p,xs,i,z,rfl,rfl,hq,he,q⟩:=h
  cases rx
  obtain ⟨t,rfl⟩:=ry
  obtain ⟨its,r,pl,hz⟩:=I.list hq
  obtain ⟨j,h1,h2,h3,h4,h5⟩:=atI_get he
  obtain ⟨w,ew,rw'⟩:=r.get h2
  have hl:=r.length
  have hn:=line63
  have fin:EP X pins σ Q w s:=⟨z,H,I,rw',q⟩
  by_cases h0:0≤i
  · have hj:i.toNat=j:=by
      rw [seqIndex_of h0 h5] at h1
      exact Option.some.inj h1
    exact item_listR pl.isList h0 (by omega) (by rw [hj];simpa using ew) fin hs
  · have hj:(i+(its.toArray.size:Int)).toNat=j:=by
      rw [seqIndex_neg (by omega) h4] at h1
      rw [List.size_toArray,← hl]
      exact Option.some.inj h1
    exact subscriptTail_builtinR (x:=w) pl.isList.typeIs slot_list_getitem.lookup
      (wpAny_getItem_list_neg (Q:=fun r s'=>r=w∧EP X pins σ Q r s') pl.isList (by omega) (by rw [List.size_toArray]<;>omega) (by omega) (by rw [hj];simpa using ew) ⟨rfl,fin⟩) hs
theorem ix_tup:IxR X (rIxT X.K):=by
  intro value slice pins s σ H x y v u Q I rx ry h hs
  obtain ⟨p,xs,i,z,rfl,rfl,hq,he,q⟩:=h
  cases rx
  obtain ⟨t,rfl⟩:=ry
  obtain ⟨its,r,pl,hz⟩:=I.tuple hq
  obtain ⟨j,h1,h2,h3,h4,h5⟩:=atI_get he
  obtain ⟨w,ew,rw'⟩:=r.get h2
  have hl:=r.length
  have hn:=line63
  have fin:EP X pins σ Q w s:=⟨z,H,I,rw',q⟩
  exact subscriptTail_builtinR (x:=w) pl.typeIs slot_tuple_getitem.lookup
    (getItem_tuple (j:=j) (Q:=fun r s'=>r=w∧EP X pins σ Q r s') pl (by omega) (by omega) (by rw [List.size_toArray,← hl];exact h1) (by simpa using ew) ⟨rfl,fin⟩) hs
theorem ix_str:IxR X rIxS:=by
  intro value slice pins s σ H x y v u Q I rx ry h hs
  obtain ⟨z,i,c,rfl,rfl,hz,he,q⟩:=h
  obtain ⟨t,rfl⟩:=rx
  obtain ⟨t',rfl⟩:=ry
  obtain ⟨j,h1,h2,h3,h4,h5⟩:=atI_get he
  have hl:z.cps.toList.length=z.length:=by simp [Str.length]
  rw [hl] at h1 h4 h5
  have hn:=line63
  exact tail_any (typeIs_str s z t) slot_str_getitem.lookup (getItem_str (c:=c) (by
    have e1:decide (i < -(2^63:Int))=false:=decide_eq_false (by omega)
    have e2:decide (i≥2^63)=false:=decide_eq_false (by omega)
    rw [e1,e2,Bool.or_false]) (by rw [h1];simpa using h2) ⟨.str ⟨#[c]⟩,H,I.tok _,⟨_,rfl⟩,q⟩) hs
theorem slice_bounds (lo hi:Option Int)(n:Nat):(sliceBounds lo hi none n).1=((HT.sIx n 0 lo:Nat):Int)∧(sliceBounds lo hi none n).2.1=((HT.sIx n n hi:Nat):Int)∧(sliceBounds lo hi none n).2.2=1:=by
  refine ⟨?_,?_,rfl⟩
  · cases lo with
    | none=>simp [sliceBounds,HT.sIx]
    | some i =>
      simp only [sliceBounds,HT.sIx,Option.getD_none,show (1:Int) > 0 by decide,if_true]
      by_cases h:i<0
      · simp only [h,if_true]<;>omega
      · simp only [h,if_false]<;>omega
  · cases hi with
    | none=>simp [sliceBounds,HT.sIx]
    | some i =>
      simp only [sliceBounds,HT.sIx,Option.getD_none,show (1:Int) > 0 by decide,if_true]
      by_cases h:i<0
      · simp only [h,if_true]<;>omega
      · simp only [h,if_false]<;>omega
theorem slicePick_cut (its:List Value)(lo hi:Option Int):slicePick its.toArray lo hi none=((its.drop (HT.sIx its.length 0 lo)).take (HT.sIx its.length its.length hi-HT.sIx its.length 0 lo)).toArray:=by
  obtain ⟨h1,h2,h3⟩:=slice_bounds lo hi its.toArray.size
  unfold slicePick
  rw [h1,h2,h3]
  simp only [sliceRange_one,pick_run,List.size_toArray]<;>rfl
def rSlL (K:PySem.W.Frag):V→Option Int→Option Int→Hp→VK→Prop:=fun x lo hi H Q=>∃ a xs,x=.ref a∧SqL K H a xs∧∀ p,H p=none→Q (.ref p) (upd H p (.lst (cutV xs lo hi)))
theorem sl_list:SlR X (rSlL X.K):=by
  intro pins s σ H x v vl vu lo hi sl Q I rx hs pl pu h
  obtain ⟨a,xs,rfl,hx,q⟩:=h
  cases rx
  obtain ⟨its,r,ht,hz⟩:=I.list hx
  have hlen:=r.length
  refine ⟨"list",_,slot_list_getitem.lookup,ht.isList.typeIs,?_⟩
  refine wpAny_getItem_list_slice ht.isList hs pl pu .none (by simp) ?_ (by rw [List.size_toArray]<;>omega)
  rw [slicePick_cut,← hlen]
  refine ⟨.ref s.heap.objs.size,_,I.laid (t':=s.toks) (o:=.lst (cutV xs lo hi)) (fun b ob q=>Heap.get?_push_of_some _ q) (Nat.le_refl _) ?_,rfl,q _ (I.hok.fresh (Nat.le_refl _))⟩
  exact ⟨Nat.le_trans (cutV_length xs lo hi) hz,_,0,(r.drop (HT.sIx xs.length 0 lo)).take (HT.sIx xs.length xs.length hi-HT.sIx xs.length 0 lo),Heap.get?_push_size _ rfl⟩
def flatV:V→Bool
  | .non=>true
  | .bl _=>true
  | .int _=>true
  | .str _=>true
  | _=>false
def eqV:V→V→Bool
  | .non,.non=>true
  | .bl a,.bl b=>a==b
  | .bl a,.int b=>(if a then 1 else 0)==b
  | .int a,.bl b=>a==(if b then 1 else 0)
  | .int a,.int b=>a==b
  | .str a,.str b=>a==b
  | _,_=>false
theorem eqAt_V {A:Around}{s:Shared}{y x:V}{u v:Value}(ry:RelV y u)(rx:RelV x v)(fy:flatV y=true)(fx:flatV x=true):SeqAt.EqAt A s u v (eqV y x):=by
  cases y with
  | non =>
    cases ry
    cases x with
    | non=>cases rx;exact SeqAt.EqAt.same _
    | bl b=>cases rx;exact SeqAt.EqAt.none_bool b
    | int b=>obtain ⟨t,rfl⟩:=rx;exact SeqAt.EqAt.none_int b t
    | str b=>obtain ⟨t,rfl⟩:=rx;exact SeqAt.EqAt.none_str b t
    | _=>exact absurd (show false=true from fx) Bool.false_ne_true
  | bl a =>
    cases ry
    cases x with
    | non=>cases rx;exact SeqAt.EqAt.bool_none a
    | bl b=>cases rx;exact SeqAt.EqAt.bool_bool a b
    | int b=>obtain ⟨t,rfl⟩:=rx;exact SeqAt.EqAt.bool_int a b t
    | str b=>obtain ⟨t,rfl⟩:=rx;exact SeqAt.EqAt.bool_str a b t
    | _=>exact absurd (show false=true from fx) Bool.false_ne_true
  | int a =>
    obtain ⟨t',rfl⟩:=ry
    cases x with
    | non=>cases rx;exact SeqAt.EqAt.int_none a t'
    | bl b=>cases rx;exact SeqAt.EqAt.int_bool a t' b
    | int b=>obtain ⟨t,rfl⟩:=rx;exact SeqAt.EqAt.int_int a t' b t
    | str b=>obtain ⟨t,rfl⟩:=rx;exact SeqAt.EqAt.int_str a t' b t
    | _=>exact absurd (show false=true from fx) Bool.false_ne_true
  | str a =>
    obtain ⟨t',rfl⟩:=ry
    cases x with
    | non=>cases rx;exact SeqAt.EqAt.str_none a t'
    | bl b=>cases rx;exact SeqAt.EqAt.str_bool a t' b
    | int b=>obtain ⟨t,rfl⟩:=rx;exact SeqAt.EqAt.str_int a t' b t
    | str b=>obtain ⟨t,rfl⟩:=rx;exact SeqAt.EqAt.str_str a t' b t
    | _=>exact absurd (show false=true from fx) Bool.false_ne_true
  | _=>exact absurd (show false=true from fy) Bool.false_ne_true
def eqU (x:V)(u:Value):Bool:=match u with
  | .none=>eqV .non x
  | .bool b=>eqV (.bl b) x
  | .int i _=>eqV (.int i) x
  | .str z _=>eqV (.str z) x
  | _=>false
theorem eqU_of {x y:V}{u:Value}(r:RelV y u)(f:flatV y=true):eqU x u=eqV y x:=by
  cases y with
  | non=>cases r;rfl
  | bl b=>cases r;rfl
  | int i=>obtain ⟨t,rfl⟩:=r;rfl
  | str z=>obtain ⟨t,rfl⟩:=r;rfl
  | _=>exact absurd (show false=true from f) Bool.false_ne_true
theorem any_eqU {x:V}:∀ {xs:List V} {us:List Value},Vals xs us→xs.all flatV=true→us.any (eqU x)=xs.any fun y=>eqV y x
  | _,_,.nil,_=>rfl
  | y::xs,u::us,.cons r t,f=>by
    rw [List.all_cons,Bool.and_eq_true] at f
    rw [List.any_cons,List.any_cons,eqU_of r f.1,any_eqU t f.2]
theorem mem_eqAt {A:Around}{s:Shared}{x:V}{v:Value}(rx:RelV x v)(fx:flatV x=true):∀ {xs:List V} {us:List Value},Vals xs us→xs.all flatV=true→∀ u∈us,SeqAt.EqAt A s u v (eqU x u)
  | _,_,.nil,_=>fun u hu=>by cases hu
  | y::xs,u::us,.cons r t,f=>fun u' hu=>by
    rw [List.all_cons,Bool.and_eq_true] at f
    rcases List.mem_cons.mp hu with rfl | hu
    · rw [eqU_of r f.1];exact eqAt_V r rx f.1 fx
    · exact mem_eqAt rx fx t f.2 u' hu
def inV (x:V)(xs:List V):Bool:=xs.any fun y=>eqV y x
def rIn (K:PySem.W.Frag)(neg:Bool):R2:=fun x y H Q=>∃ p xs,y=.ref p∧(SqL K H p xs∨SqT K H p xs)∧flatV x=true∧xs.all flatV=true∧Q (.bl (if neg then !inV x xs else inV x xs)) H
theorem op_in_seq:OpR X (compareOp .In) (rIn X.K false):=by
  intro pins s σ H x y v u Q I rx ry h
  obtain ⟨p,xs,rfl,hq,fx,fs,q⟩:=h
  cases ry
  rcases hq with hq | hq
  · obtain ⟨its,r,pl,hz⟩:=I.list hq
    refine SeqAt.in_listAt (eqU x) pl.isList (fun w hw=>mem_eqAt rx fx r fs w (by simpa using hw)) ⟨.bl _,H,I,rfl,?_⟩
    rw [show its.toArray.any (eqU x)=its.any (eqU x) by simp,any_eqU r fs]
    exact q
  · obtain ⟨its,r,pl,hz⟩:=I.tuple hq
    refine SeqAt.in_tupleAt (eqU x) pl (fun w hw=>mem_eqAt rx fx r fs w (by simpa using hw)) ⟨.bl _,H,I,rfl,?_⟩
    rw [show its.toArray.any (eqU x)=its.any (eqU x) by simp,any_eqU r fs]
    exact q
theorem call_len_seq:CallR X (.builtin "len") (fun xs H Q=>∃ p ys,xs=[.ref p]∧(SqL X.K H p ys∨SqT X.K H p ys)∧Q (.int ys.length) H):=by
  intro pins s σ H xs us Q I r h
  obtain ⟨p,ys,rfl,hq,q⟩:=h
  obtain ⟨u,rfl,rx⟩:=vals1 r
  cases rx
  have hn:=line63
  rcases hq with hq | hq
  · obtain ⟨its,r',pl,hz⟩:=I.list hq
    have hlen:=r'.length
    exact Calls.call_len_list pl.isList (by simp only [List.size_toArray]<;>omega) ⟨.int ys.length,H,I.tok _,⟨s.toks+1,by rw [List.size_toArray,hlen]⟩,q⟩
  · obtain ⟨its,r',pl,hz⟩:=I.tuple hq
    have hlen:=r'.length
    exact len_tuple pl (by simp only [List.size_toArray]<;>omega) ⟨.int ys.length,H,I.tok _,⟨s.toks+1,by rw [List.size_toArray,hlen]⟩,q⟩
theorem call_list_of:CallR X (.type "list") (fun xs H Q=>∃ p ys,xs=[.ref p]∧(SqL X.K H p ys∨SqT X.K H p ys)∧∀ l,H l=none→Q (.ref l) (upd H l (.lst ys))):=by
  intro pins s σ H xs us Q I r h
  obtain ⟨p,ys,rfl,hq,q⟩:=h
  obtain ⟨u,rfl,rx⟩:=vals1 r
  cases rx
  have fin:∀ (its:List Value),Vals ys its→ys.length≤sizeLine→∀ (h':Heap) (c':Nat),(∀ b o',s.heap.get? b=some o'→h'.get? b=some o') →
      h'.get? s.heap.objs.size=some { cls:=.type "list",dict:=none,data:=.seq its.toArray c',slots:=#[] }→EP X pins σ Q (.ref s.heap.objs.size) { s with heap:=h' }:=fun its r' hz h' c' kp e =>
    ⟨.ref s.heap.objs.size,_,I.laid (t':=s.toks) kp (Nat.le_refl _) (show ObjOk X.prog X.w _ h' _ (.lst ys) from ⟨hz,its,c',r',e⟩),rfl,q _ (I.hok.fresh (Nat.le_refl _))⟩
  rcases hq with hq | hq
  · obtain ⟨its,r',pl,hz⟩:=I.list hq
    have hlen:=r'.length
    obtain ⟨o,ho,hc,n,hd⟩:=pl.isList
    exact call_list_seq p (.inl rfl) ho hc hd (fun h' c' kp e=>fin its r' hz h' c' kp e) (by simp only [List.size_toArray]<;>omega)
  · obtain ⟨its,r',pl,hz⟩:=I.tuple hq
    have hlen:=r'.length
    obtain ⟨o,ho,hc,n,hd⟩:=pl
    exact call_list_seq p (.inr rfl) ho hc hd (fun h' c' kp e=>fin its r' hz h' c' kp e) (by simp only [List.size_toArray]<;>omega)
def tyV (K:PySem.W.Frag)(T:String)(x:V)(H:Hp):Prop:=match x with
  | .str _=>T="str"
  | .int _=>T="int"
  | .ref p=>(T="list"∧∃ xs,SqL K H p xs)∨(T="tuple"∧∃ o,K.lookup p=some o∧o.cls=.type "tuple"∧o.dict=none) ∨
      (T="dict"∧((∃ kvs,H p=some (.dK kvs))∨∃ kvs,H p=some (.dT kvs)))∨(T="set"∧∃ S n,H p=some (.set S n))
  | _=>False
theorem tyV_is {pins:List (Addr × Obj)} {σ:St} {H:Hp} {s:Shared} {T:String} {x:V} {v:Value} (I:Inv X pins σ H s) (r:RelV x v) (ty:tyV X.K T x H) :
    s.TypeIs v T∧∀ a,v=.ref a→∃ ob,s.heap.get? a=some ob∧ob.dict=none:=by
  cases x with
  | str z =>
    obtain ⟨t,rfl⟩:=r
    cases (show T="str" from ty)
    exact ⟨typeIs_str s z t,fun _ e=>nomatch e⟩
  | int i =>
    obtain ⟨t,rfl⟩:=r
    cases (show T="int" from ty)
    exact ⟨typeIs_int s i t,fun _ e=>nomatch e⟩
  | ref p =>
    cases r
    rcases ty with ⟨rfl,xs,hq⟩ | ⟨rfl,o,hk,hc,hd⟩ | ⟨rfl,hk⟩ | ⟨rfl,S,n,hk⟩
    · obtain ⟨its,_,pl,_⟩:=I.list hq
      refine ⟨pl.isList.typeIs,fun a e=>?_⟩
      cases e
      obtain ⟨o,n,e,c,hd,_⟩:=pl
      exact ⟨o,e,hd⟩
    · refine ⟨⟨o,I.kIn p o hk,hc⟩,fun a e=>?_⟩
      cases e
      exact ⟨o,I.kIn _ o hk,hd⟩
    · have z:∃ o,s.heap.get? p=some o∧o.ExactDict:=by
        rcases hk with ⟨kvs,hk⟩ | ⟨kvs,hk⟩
        · obtain ⟨_,_,_,_,o,_,_,e,ex,_⟩:=I.hok p _ hk
          exact ⟨o,e,ex⟩
        · obtain ⟨_,_,_,_,o,_,_,e,ex,_⟩:=I.hok p _ hk
          exact ⟨o,e,ex⟩
      obtain ⟨o,e,ex⟩:=z
      refine ⟨⟨o,e,ex.1⟩,fun a e2=>?_⟩
      cases e2
      exact ⟨o,e,ex.2.1⟩
    · obtain ⟨o,_,_,_,e,ex,_⟩:=I.hok p _ hk
      refine ⟨⟨o,e,ex.1⟩,fun a e2=>?_⟩
      cases e2
      exact ⟨o,e,ex.2.1⟩
  | _=>exact False.elim ty
def tBM0 (K:PySem.W.Frag)(T:String)(r:V→List V→Hp→VK→Prop)(to:TE):TE:=fun σ H Q=>to σ H fun x H1=>tyV K T x H1∧r x [] H1 Q
def tBM (K:PySem.W.Frag)(T:String)(r:V→List V→Hp→VK→Prop)(to:TE)(t:TA):TE:=fun σ H Q=>to σ H fun x H1=>tyV K T x H1∧t σ H1 fun xs H2=>r x xs H2 Q
variable {o e:Expr}{es:List Expr}{to:TE}{t:TA}{name:Str}{apos cpos:Pos}{T id:String}{r:V→List V→Hp→VK→Prop}
theorem pe_bm0 (pa:PlainAttrs T)(slot:Slot T name id)(hty:typeOf (.builtin id)=pure (.type "method_descriptor"))(hm:MtR X id r)(ho:PE X o to)
    (hbase:attributeBase o name X.env (eval o X.env)=eval o X.env:=by rfl) (hline:(apos.endLine==cpos.line)=true:=by rfl):PE X (.Call (.Attribute o name apos) [] [] cpos) (tBM0 X.K T r to):=by
  intro pins s σ H Q I h
  refine wpAny_Call_method0_late hbase hline (thn (ho pins s σ H _ I h) fun v s1 ⟨x,H1,I1,r1,ty,q1⟩=>?_)
  obtain ⟨h1,h2⟩:=tyV_is I1 r1 ty
  exact ⟨T,id,pa,slot,hty,h1,h2,Calls.callWith_builtin rfl (PySem.evalArgs_none (hm pins s1 σ H1 x [] v [] Q I1 r1 .nil q1))⟩
theorem pe_bm (pa:PlainAttrs T)(slot:Slot T name id)(hty:typeOf (.builtin id)=pure (.type "method_descriptor"))(hm:MtR X id r)(ho:PE X o to)(ha:PA X (e::es) t)
    (hbase:attributeBase o name X.env (eval o X.env)=eval o X.env:=by rfl)
    (hfew:((backTo cpos (starEach (e::es) X.env)).all (fun x=>!x.1)&&(backToKw cpos (keywordEach [] X.env)).all (fun x=>x.1.isSome)
      && decide ((e::es).length+([]:List Keyword).length+(if ([]:List Keyword).isEmpty then 0 else 1)<30))=true:=by rfl)
    (hline:(apos.endLine==cpos.line)=true:=by rfl) (hs:starEach (e::es) X.env=(false,eval e X.env)::starEach es X.env:=by rfl) (hplain:(backTo cpos (starEach es X.env)).any (·.1)=false:=by rfl) :
    PE X (.Call (.Attribute o name apos) (e::es) [] cpos) (tBM X.K T r to t):=by
  intro pins s σ H Q I h
  refine wpAny_Call_method_late hbase hfew hline rfl (thn (ho pins s σ H _ I h) fun v s1 ⟨x,H1,I1,r1,ty,q1⟩=>?_)
  obtain ⟨h1,h2⟩:=tyV_is I1 r1 ty
  refine ⟨T,id,pa,slot,hty,h1,h2,?_⟩
  have hA:=ha cpos pins s1 σ H1 _ I1 q1
  rw [hs] at hA ⊢
  refine Calls.callWith_builtin (by show (false||(backTo cpos (starEach es X.env)).any (·.1))=false;rw [hplain]<;>rfl) (Calls.evalArgs_plain ?_)
  exact thn hA fun us s2 ⟨vs,H2,I2,r2,q2⟩=>hm pins s2 σ H2 x vs v us Q I2 r1 r2 q2
end
end L2
namespace L2
open PySem PySem.Spec PyProof.Rows
def MtM (X:Cx) (id:String) (r:V→List V→Hp→VK→Prop):Prop :=
  ∀ (pins:List (Addr × Obj)) (s:Shared) (σ:St) (H:Hp) (x:V) (xs:List V) (v:Value) (us:List Value) (Q:VK),Inv X pins σ H s→RelV x v→Vals xs us→r x xs H Q →
    wpAny (model X.prog X.w) X.A (call (.builtin id) (v::us)) (EP X pins σ Q) X.xe s
theorem Vals.one:∀ {x:V} {us:List Value},Vals [x] us→∃ u,us=[u]∧RelV x u
  | _,_,.cons r .nil=>⟨_,rfl,r⟩
theorem Vals.two:∀ {x y:V} {us:List Value},Vals [x,y] us→∃ u v,us=[u,v]∧RelV x u∧RelV y v:=by
  intro x y us h
  cases h with
  | cons r t =>
    cases t with
    | cons q t2 =>
      cases t2
      exact ⟨_,_,rfl,r,q⟩
theorem Vals.zero:∀ {us:List Value},Vals [] us→us=[]
  | _,.nil=>rfl
section
variable {X:Cx}{pins:List (Addr × Obj)}{σ:St}{H:Hp}{s:Shared}{l b:Addr}{xs ys zs:List V}
theorem Inv.lset {its its':List Value}{n:Nat}{f:Array Value→Array Value}{t':Nat}(I:Inv X pins σ H s)(hH:H l=some (.lst xs))
    (e:s.heap.get? l=some { cls:=.type "list",data:=.seq its.toArray n }) (hf:f its.toArray=its'.toArray) (hv:Vals ys its') (hz:ys.length≤sizeLine) :
    Inv X pins σ (upd H l (.lst ys)) { s with heap:=s.heap.update l (Obj.mapSeq f),toks:=t' }:=by
  have q:=PySem.IsL.update e f
  rw [hf] at q
  refine I.write (x:=l) (e:=l) (by rw [hH];exact trivial) (.inl rfl) (fun b' u hb hu=>(Heap.get?_update_other s.heap (Obj.mapSeq f) (Ne.symm hb)).trans hu) ⟨_,q⟩ ?_
  exact ⟨hz,its',_,hv,q⟩
theorem Inv.lnew {its:List Value}{t':Nat}(I:Inv X pins σ H s)(hv:Vals ys its)(hz:ys.length≤sizeLine) :
    Inv X pins σ (upd H s.heap.objs.size (.lst ys)) { s with heap:=s.heap.push { cls:=.type "list",data:=.seq its.toArray },toks:=t' } :=
  I.laid (fun _ _ q=>Heap.get?_push_of_some _ q) (Nat.le_refl _) ⟨hz,its,0,hv,Heap.get?_push_size _ rfl⟩
theorem Inv.fresh (I:Inv X pins σ H s):H s.heap.objs.size=none:=I.hok.fresh (Nat.le_refl _)
theorem Inv.lstM (I:Inv X pins σ H s)(hH:H l=some (.lst xs)):xs.length≤sizeLine∧∃ (its:List Value) (n:Nat),Vals xs its∧xs.length=its.length∧s.heap.get? l=some { cls:=.type "list",data:=.seq its.toArray n }:=by
  obtain ⟨z,its,n,r,e⟩:=I.hok l _ hH
  exact ⟨z,its,n,r,r.length,e⟩
end
section
variable {X:Cx}
def rAppend:V→List V→Hp→VK→Prop:=fun x vs H Q=>∃ l xs y,x=.ref l∧vs=[y]∧H l=some (.lst xs)∧xs.length<sizeLine∧Q .non (upd H l (.lst (xs++[y])))
theorem mt_append:MtM X "list.append" rAppend:=by
  intro pins s σ H x vs v us Q I rx rv h
  obtain ⟨l,xs,y,rfl,rfl,hH,hz,q⟩:=h
  cases rx
  obtain ⟨u,rfl,ru⟩:=rv.one
  obtain ⟨z,its,n,r,hl,e⟩:=I.lstM hH
  refine call_meets F.slot_list_append ⟨_,e,rfl⟩ F.entry_list_append (F.args_list_append_2 _ _) (PySem.list_append l its.toArray n u (by rw [List.size_toArray];omega)) ⟨e,?_⟩
  refine ⟨.non,_,I.lset (its':=its++[u]) hH e (by simp) (r.append (.cons ru .nil)) ?_,rfl,q⟩
  rw [List.length_append,List.length_singleton]
  omega
def rClear:V→List V→Hp→VK→Prop:=fun x vs H Q=>∃ l xs,x=.ref l∧vs=[]∧H l=some (.lst xs)∧Q .non (upd H l (.lst []))
theorem mt_clear:MtM X "list.clear" rClear:=by
  intro pins s σ H x vs v us Q I rx rv h
  obtain ⟨l,xs,rfl,rfl,hH,q⟩:=h
  cases rx
  have hus:=rv.zero
  subst hus
  obtain ⟨z,its,n,r,hl,e⟩:=I.lstM hH
  refine call_meets F.slot_list_clear ⟨_,e,rfl⟩ F.entry_list_clear (F.args_list_clear_1 _) (AutoSeq1.list_clear_list_0 l its.toArray n (by rw [List.size_toArray];omega)) ⟨e,?_⟩
  exact ⟨.non,_,I.lset (its':=[]) (ys:=[]) hH e rfl .nil (Nat.zero_le _),rfl,q⟩
def rCat:R2:=fun x y H Q=>∃ l b xs zs,x=.ref l∧y=.ref b∧H l=some (.lst xs)∧H b=some (.lst zs)∧xs.length+zs.length≤sizeLine∧∀ p,H p=none→Q (.ref p) (upd H p (.lst (xs++zs)))
theorem op_cat:OpR X (binaryOp .Add) rCat:=by
  intro pins s σ H x y v u Q I rx ry h
  obtain ⟨l,b,xs,zs,rfl,rfl,hH,hB,hz,q⟩:=h
  cases rx
  cases ry
  obtain ⟨z,its,n,r,hl,e⟩:=I.lstM hH
  obtain ⟨z2,its2,n2,r2,hl2,e2⟩:=I.lstM hB
  refine PySem.P.add_list e e2 ?_ (by rw [List.size_toArray,List.size_toArray];omega)
  have ea:its.toArray++its2.toArray=(its++its2).toArray:=by simp
  rw [ea]
  exact ⟨.ref _,_,I.lnew (t':=s.toks) (r.append r2) (by rw [List.length_append];omega),rfl,q _ I.fresh⟩
end
section
variable {prog:Program}{w:World}{A:Around}{E:Value→Shared→Prop}{s:Shared}
set_option maxRecDepth 100000 in
end
section
variable {X:Cx}
end
end L2
namespace Att
open PySem PySem.W PySem.Calls PyProof.Rows
theorem ints_of_wellAll {P:Params}{h:Heap}:∀ (ns:List Int) (vs:List Value),WellAll P h vs (ns.map WData.int)→IntsAre vs ns:=by
  intro ns
  induction ns with
  | nil =>
    intro vs w
    rw [List.map_nil] at w
    cases w
    exact .nil
  | cons n ns ih =>
    intro vs w
    rw [List.map_cons] at w
    cases w with
    | cons a b =>
      cases a
      exact .cons _ _ (ih _ b)
theorem script_of {l:OpenLaw}{n:Nat}(hn:l.most=some n){P:Params}{h:Heap}{args:List WData}{vals:List Value}
    (hpre:l.row.toRowW.claim.pre args=true) (hwl:WellAll P h vals args) :
    ∃ a vs ns,vals=[Value.ref a]∧args=[WData.list (ns.map WData.int)]∧h.get? a=some { cls:=.type "list",data:=.seq vs.toArray }∧IntsAre vs ns∧ns.length≤n:=by
  have hsh:WShape.hasAll [] args [.list .int]=true:=(pre_splitW hpre).1
  have hc:l.pre.holds [] { args:=args }=true:=(pre_splitW hpre).2
  obtain ⟨d,r,rfl,h1,h2⟩:=hasAllW_cons hsh
  obtain rfl:=hasAllW_nil h2
  obtain ⟨xs,rfl,h3⟩:=hasW_list h1
  obtain ⟨ns,rfl⟩:=items_int h3
  have hlen:ns.length≤n:=by
    unfold OpenLaw.pre at hc
    have h4:(WTm.not (.lt (.lit (.int (n:Int))) (.len (.arg 0)))).holds [] { args:=[.list (ns.map .int)] }=true:=by
      have h4:=(holds_andW hc).1
      rw [hn] at h4
      exact h4
    have h5:=condW_of h4 (w_not (w_lt w_lit (w_len_list (w_arg rfl))))
    rw [List.length_map] at h5
    refine Nat.le_of_not_lt fun q=>?_
    have q':(n:Int)<((ns.length:Nat):Int):=by omega
    first
      | (rw [decide_eq_true q'] at h5;exact absurd h5 (by decide))
      | (simp at h5;omega)
  cases hwl with
  | cons w1 w2 =>
    cases w2
    cases w1 with
    | list ho hall=>exact ⟨_,_,ns,rfl,rfl,ho,ints_of_wellAll ns _ hall,hlen⟩
theorem post_true (l:OpenLaw)(args:List WData):l.row.toRowW.claim.post args (.bool true) args=true :=
  postW_of (r:=l.row.toRowW) (X:=(true==true))
    (show WShape.has [] (.bool true) .bool=true by first | rfl | decide | simp [WShape.has,WShape.arms,WShape.armsAll])
    (show (WTm.eq .res (.lit (.bool true))).value [] { args:=args,res:=some (.bool true),after:=args }=some (.bool (true==true)) from w_eq_bool (w_res rfl) w_lit) rfl
theorem attach_call {l:OpenLaw}{n:Nat}{q:Program}{loose:List Str}{XP:(Str→Option Value)→Heap→Prop}{YP:World→Heap→Prop}{d:DefRec}
    (hn:l.most=some n) (hdf:d.params.defaults=[])
    (call:∀ (w:World) (s₀ s₁:Shared) (mg mb:Str→Option Value) (fa:Addr) (o:Obj) (pm cd doc:Value) (a:Addr) (vs:List Value) (ns:List Int),
      Ground q loose [] XP w s₀ mg mb s₁.heap→YP w s₁.heap →
      s₁.heap.get? fa=some o→o.data=.func (docDef d.name d.params d.body d.scope pm cd doc)→s₁.heap.CodeRec cd d.name→mg d.name=some (.ref fa) →
      s₁.heap.get? a=some { cls:=.type "list",data:=.seq vs.toArray }→IntsAre vs ns→ns.length≤n→s₁.gens=#[] →
      codeAny (model l.prog w) callerA (.call (.ref fa) ⟨[.ref a],[]⟩) (fun r s'=>r=.ok (.ret (.bool true))∧OldK s₁.heap s'.heap∧s'.os=s₁.os∧AllBare s'.gens) s₁) :
    WalkO q loose XP YP l.row.toRowW d [] (fun f vs=>PySem.call f vs):=by
  intro w s₀ s₁ mg mb G Y fa o pm cd doc dV kV ho hd hcd hD hmg hg args vals as hpre hlay hrd hwl hlo
  obtain rfl:dV=.none:=Dflts.none hD hdf
  obtain rfl:kV=.none:=Dflts.noKw hD
  obtain ⟨a,vs,ns,rfl,rfl,hobj,hints,hlen⟩:=script_of hn hpre hwl
  refine enter_call (codeAny_mono (call w s₀ s₁ mg mb fa o pm cd doc a vs ns G Y ho (fd_plain hd) hcd hmg hobj hints hlen hg) fun r s' hq=>?_)
  obtain ⟨rfl,h2,h3,h4⟩:=hq
  exact ⟨.inl ⟨.bool true,.bool true,[],rfl,fun _=>rfl,.bool true,post_true l _,fun _=>⟨List.Pairwise.nil,fun _ hm=>(nomatch hm)⟩⟩,h2,h3,h4⟩
section
variable {prog:Program}{w:World}{A:Around}{E:Value→Shared→Prop}{s:Shared}{K:Frag}
end
end Att
namespace L2
open PySem PySem.Spec PyProof.Rows
theorem vals_ints:∀ {vs:List Value} {ns:List Int},IntsAre vs ns→Vals (ns.map V.int) vs
  | _,_,.nil=>.nil
  | _,_,.cons n t h=>.cons ⟨t,rfl⟩ (vals_ints h)
def Only (H:Hp):Prop:=∀ b,H b=none∨∃ o xs,H b=some (.frz o (.lst xs))
theorem law_call {P:Program} {w:World} {K:PySem.W.Frag} {mg mb:Str→Option Value} {CX:CXT} {k:Nat} {fa a:Addr} {fd:FuncData} {x:Str} {sp:Sp} {s₁:Shared} {vs:List Value} {ns:List Int}
    (KX:K.In s₁.heap) (hns:s₁.heap.Ns mainGlobals mg) (hb:s₁.heap.Ns builtinsNs mb) (hbb:∀ x:Str,x≠"__name__"→mb x=bootBuiltins x) (hlim:s₁.heap.NoLimit) (hg:s₁.gens=#[])
    (ha:s₁.heap.get? a=some { cls:=.type "list",data:=.seq vs.toArray }) (hi:IntsAre vs ns) (hl:ns.length≤sizeLine) (hr:Room k callerA)
    (F:∀ base:Heap,K.In base→base.Ns mainGlobals mg→FnOk P w K mg base CX k fa fd [x] sp) (hbind:∀ (s:Shared) (u:Value),BindsTo s fd ⟨[u],[]⟩ [(x,u)])
    (hsp:∀ H:Hp,Only H→SqL K H a (ns.map V.int)→sp [.ref a] H (fun v _=>v=.bl true) fun _ _ _=>False)
    (hCX:∀ H e s',CX [] H s₁ (fun _ _ _=>False) e s'→False) :
    codeAny (model P w) callerA (.call (.ref fa) ⟨[.ref a],[]⟩) (fun r s'=>r=.ok (.ret (.bool true))∧OldK s₁.heap s'.heap∧s'.os=s₁.os∧AllBare s'.gens) s₁:=by
  have rv:=vals_ints hi
  have lenV:=hi.length
  have core : ∀ H:Hp,Only H→SqL K H a (ns.map V.int)→HOk P w H s₁.heap→(∀ b,H b≠none→b=a)→(H a≠none→K.lookup a=none) →
      codeAny (model P w) callerA (.call (.ref fa) ⟨[.ref a],[]⟩) (fun r s'=>r=.ok (.ret (.bool true))∧OldK s₁.heap s'.heap∧s'.os=s₁.os∧AllBare s'.gens) s₁:=by
    intro H hO hS hok hA hK
    have base_of:∀ {b:Addr} {o:Obj},s₁.heap.get? b=some o→H b=none→(hidT s₁.heap H).get? b=some o:=fun e n=>hidT_get e n
    have noA:∀ {b:Addr} {o:Obj} {es:Array DictEntry} {ep:Nat},s₁.heap.get? b=some o→o.data=.dict es ep→H b=none:=fun {b o es ep} e d=>by
      cases q:H b with
      | none=>rfl
      | some u =>
        have e':b=a:=hA b (by rw [q];simp)
        subst e'
        rw [ha] at e;cases e
        have d':Data.seq vs.toArray _=Data.dict es ep:=d
        cases d'
    have nsK:∀ {b:Addr} {m:Str→Option Value},s₁.heap.Ns b m→(hidT s₁.heap H).Ns b m:=fun {b m} ⟨o,es,ep,e,d,r⟩=>⟨o,es,ep,base_of e (noA e d),d,r⟩
    have hKb:K.In (hidT s₁.heap H):=fun b o e=>base_of (KX b o e) (by
      cases q:H b with
      | none=>rfl
      | some u =>
        have e':b=a:=hA b (by rw [q];simp)
        subst e'
        rw [hK (by rw [q];simp)] at e;cases e)
    have hM:Mod K mg (hidT s₁.heap H):=⟨hKb,nsK hns,⟨mb,nsK hb,hbb⟩,let ⟨mc,h1,h2⟩:=hlim;⟨mc,nsK h1,h2⟩⟩
    have e0:Env0 P w K mg (hidT s₁.heap H) callerA [] s₁ H:=⟨rfl,hM,fun b o e=>of_hidT e,Nat.le_of_eq (hidT_size _ _),trivial,fun b hb=>absurd (show b∈([]:List Addr) from hb) (by simp),hok,.of_eq hg⟩
    refine codeAny_mono ((F _ hKb (nsK hns)).run callerA [] s₁ H ⟨[.ref a],[]⟩ [.ref a] [.ref a] _ _ hr e0 (hbind s₁ (.ref a)) (.cons rfl .nil) (hsp H hO hS)) fun r s' h=>?_
    cases r with
    | error e=>exact (hCX H e s' h).elim
    | ok fl =>
      cases fl with
      | next=>exact False.elim h
      | brk=>exact False.elim h
      | cont=>exact False.elim h
      | ret u =>
        obtain ⟨v,H',os,bare,un,hok',r',q⟩:=h
        have q':v=.bl true:=q
        subst q'
        obtain rfl:u=Value.bool true:=r'
        refine ⟨rfl,OldK.of_keep fun b o e=>?_,os,bare⟩
        cases q:H b with
        | none=>exact un.keep b o e q (by intro z;exact absurd (show b∈([]:List Addr) from z) (by simp)) (by simp)
        | some u =>
          rcases hO b with z | ⟨ob,xs,z⟩
          · rw [q] at z;cases z
          · have z2:=un.frzs b ob _ z
            obtain ⟨e1,_⟩:=hok b _ z
            obtain ⟨e2,_⟩:=hok' b _ z2
            rw [e] at e1;cases e1
            exact e2
  cases hk:K.lookup a with
  | some o =>
    have e:=KX a o hk
    rw [ha] at e
    cases e
    refine core (fun _=>none) (fun _=>.inl rfl) (.inr ⟨_,vs.toArray,_,hk,rfl,rfl,rfl,by rw [List.size_toArray,lenV];exact hl,by simpa using rv⟩) (fun b u z=>by have z':(none:Option HO)=some u:=z;cases z') (fun b z=>absurd rfl z) fun z=>absurd rfl z
  | none =>
    refine core (fun b=>if b=a then some (.frz { cls:=.type "list",data:=.seq vs.toArray } (.lst (ns.map V.int))) else none) (fun b=>?_) (.inl (.inr ⟨{ cls:=.type "list",data:=.seq vs.toArray },if_pos rfl⟩)) (fun b u z=>?_) (fun b z=>?_) fun _=>hk
    · by_cases hb:b=a
      · exact .inr ⟨_,_,if_pos hb⟩
      · exact .inl (if_neg hb)
    · by_cases hb:b=a
      · have z':=(if_pos hb).symm.trans z
        cases z'
        subst hb
        exact ⟨ha,by rw [List.length_map];exact hl,vs,_,rv,ha⟩
      · have z':=(if_neg hb).symm.trans z
        cases z'
    · by_cases hb:b=a
      · exact hb
      · exact absurd (if_neg hb) z
end L2
namespace L2
open PySem PySem.Spec PyProof.Rows
abbrev KOf {K:PySem.W.Frag}{h:Heap}(_:K.In h):PySem.W.Frag:=K
theorem walk_of {l:PySem.W.OpenLaw} {n k:Nat} {q:Program} {loose:List Str} {XP:(Str→Option Value)→Heap→Prop} {YP:World→Heap→Prop} {d:DefRec} {K:Params→PySem.W.Frag} {CX:World→CXT} {sp:World→Sp} {x:Str}
    (hn:l.most=some n) (hn2:n≤sizeLine) (hdf:d.params.defaults=[]) (hr:Room k callerA)
    (hY:∀ (w:World) (h:Heap),YP w h→(K w.params).In h)
    (F:∀ (w:World) (mg:Str→Option Value) (fa:Addr) (h:Heap),(K w.params).In h→h.Ns mainGlobals mg→mg d.name=some (.ref fa) →
      ∃ fd:FuncData,(∀ (s:Shared) (u:Value),BindsTo s fd ⟨[u],[]⟩ [(x,u)]) ∧
        ∀ base:Heap,(K w.params).In base→base.Ns mainGlobals mg→FnOk l.prog w (K w.params) mg base (CX w) k fa fd [x] (sp w))
    (hsp:∀ (w:World) (H:Hp) (a:Addr) (ns:List Int),ns.length≤n→Only H→SqL (K w.params) H a (ns.map V.int)→sp w [.ref a] H (fun v _=>v=.bl true) fun _ _ _=>False)
    (hCX:∀ (w:World) (H:Hp) (s:Shared) (e:Value) (s':Shared),CX w [] H s (fun _ _ _=>False) e s'→False) :
    PySem.W.WalkO q loose XP YP l.row.toRowW d [] (fun f vs=>PySem.call f vs):=by
  refine Att.attach_call hn hdf fun w s₀ s₁ mg mb fa o pm cd doc a vs ns G Y ho hd hcd hmg hobj hints hlen hg=>?_
  have KX:=hY w _ Y
  obtain ⟨fd,hb,hF⟩:=F w mg fa _ KX G.T.g hmg
  exact law_call KX G.T.g G.T.b G.T.builtins G.T.nolimit hg hobj hints (Nat.le_trans hlen hn2) hr hF hb (fun H hO hS=>hsp w H a ns hlen hO hS) fun H e s'=>hCX w H s₁ e s'
end L2
namespace L2
open PySem PySem.Spec PyProof.Rows
def inClass (s:Stmt)(j:Nat):Stmt:=match s with
  | .ClassDef _ _ _ body _ _ _ _ _ _ _=>body.getD j (.Pass ⟨0,0,0,0⟩)
  | _=>.Pass ⟨0,0,0,0⟩
def defArgs (s:Stmt):Arguments:=match s with
  | .FunctionDef _ a _ _ _ _ _ _ _ _=>a
  | _=>{ posonlyargs:=[],args:=[],vararg:=none,kwonlyargs:=[],kw_defaults:=[],kwarg:=none,defaults:=[] }
def defBody (s:Stmt):List Stmt:=match s with
  | .FunctionDef _ _ b _ _ _ _ _ _ _=>b
  | _=>[]
def defScope (s:Stmt):Scope:=match s with
  | .FunctionDef _ _ _ _ _ _ sc _ _ _=>sc
  | _=>{ kind:=.function,names:=[],isGenerator:=false,isCoroutine:=false }
abbrev CX0:CXT:=fun _ _ _ _ _ _=>False
abbrev E0:XK:=fun _ _ _=>False
theorem pass0 {X:Cx}:Passes CX0 X E0:=fun _ _ _ _ _ _ _ h=>h.elim
structure Fun (K:PySem.W.Frag)(x qual:Str)(st:Stmt)(f:Addr)(fd:FuncData):Prop where
  ex:∃ (oc:Value) (od:Option Addr) (kV doc pm:Value) (an:Option Addr) (cdv ct:Value) (osl:Array (Option Value)),
    fd=PySem.W.fnOf x qual (defArgs st) (defBody st) (defScope st) .none kV doc pm an cdv ct∧K.lookup f=some ⟨oc,od,.func fd,osl⟩∧PySem.W.codeIn K cdv qual=true
  kp:PySem.W.keepIn K (.ref f)=true
section
variable {P:Program}{w:World}{K:PySem.W.Frag}{mg:Str→Option Value}{base:Heap}
theorem Fun.ok {x qual:Str}{st:Stmt}{f:Addr}{fd:FuncData}{N ps:List Str}{k:Nat}{sp:Sp}(F:Fun K x qual st f fd)(S:FnScope N ps (defScope st))(len:∀ vs H Q E,sp vs H Q E→vs.length=ps.length)
    (hbody:∀ (cdv:Value) (A:Around) (outer:List Env) (s:Shared) (H:Hp) (vs:List V) (Q:VK) (E:XK),Room k (A.deeper (envOfC qual (defScope st) s.heap.objs.size f cdv))→sp vs H Q E →
      ∃ t,PSs (cxOf CX0 P w K mg base N qual (defScope st) f cdv A outer s H E).nox (defBody st) t∧t { nx:=fun _ H'=>Q .non H',rt:=Q } (start N vs) H):FnOk P w K mg base CX0 (k+1) f fd ps sp:=by
  obtain ⟨oc,od,kV,doc,pm,an,cdv,ct,osl,rfl,lk,hcd⟩:=F.ex
  refine fn_of lk hcd S len fun A outer s H vs Q E hr hsp=>?_
  obtain ⟨t,h,q⟩:=hbody cdv A outer s H vs Q E hr hsp
  exact ⟨t,h.nox,q⟩
theorem Fun.binds {x qual:Str}{st:Stmt}{f:Addr}{fd:FuncData}{ps:List Str}(F:Fun K x qual st f fd)
    (h:∀ (kV doc pm:Value) (an:Option Addr) (cdv ct:Value) (us:List Value),us.length=ps.length→bindArgs (PySem.W.fnOf x qual (defArgs st) (defBody st) (defScope st) .none kV doc pm an cdv ct) ⟨us,[]⟩=pure (ps.zip us)):Binds K fd ps []:=by
  obtain ⟨oc,od,kV,doc,pm,an,cdv,ct,osl,rfl,lk,hcd⟩:=F.ex
  exact .all (h kV doc pm an cdv ct)
theorem fun_mk {x qual:Str}{st:Stmt}{f:Addr}{oc:Value}{od an:Option Addr}{osl:Array (Option Value)}{kV doc pm cdv ct:Value}(l:K.lookup f=some ⟨oc,od,.func (PySem.W.fnOf x qual (defArgs st) (defBody st) (defScope st) .none kV doc pm an cdv ct),osl⟩)
    (c:PySem.W.codeIn K cdv qual=true) (k:PySem.W.keepIn K (.ref f)=true):Fun K x qual st f (PySem.W.fnOf x qual (defArgs st) (defBody st) (defScope st) .none kV doc pm an cdv ct):=⟨⟨oc,od,kV,doc,pm,an,cdv,ct,osl,rfl,l,c⟩,k⟩
end
section
variable {X:Cx}
theorem pv (i:Nat){x:Str}{pos:Pos}(hN:X.N[i]?=some x:=by rfl)(hv:Vis X.env.scope x:=by first | exact Or.inl rfl | exact Or.inr (Or.inl rfl) | exact Or.inr (Or.inr rfl))(hd:(x==("__debug__":Str))=false:=by decide)
    (hcd:(x==("__classdict__":Str))=false:=by decide):PE X (.Name x pos) (tVar i):=pe_var hN hv hd hcd
end
def Same (H H':Hp):Prop:=∀ b o,H b=some o→H' b=some o
theorem Same.refl (H:Hp):Same H H:=fun _ _ h=>h
theorem Same.trans {H H1 H2:Hp}(a:Same H H1)(b:Same H1 H2):Same H H2:=fun c o h=>b c o (a c o h)
theorem Same.free {H H':Hp}(e:Same H H'){l:Addr}(h:H' l=Option.none):H l=Option.none:=by
  cases q:H l with
  | none=>rfl
  | some o =>
    rw [e l o q] at h
    cases h
theorem Same.seq {K:PySem.W.Frag}{H H':Hp}{a:Addr}{xs:List V}(e:Same H H')(h:SqL K H a xs):SqL K H' a xs:=by
  rcases h with (h | ⟨o,h⟩) | h
  · exact .inl (.inl (e _ _ h))
  · exact .inl (.inr ⟨o,e _ _ h⟩)
  · exact .inr h
end L2
namespace L2
open PySem PySem.Spec PyProof.Rows
section
variable {κ:Type}[DecidableEq κ]
def valV (kvs:List (κ × V))(k:κ):Option V:=(kvs.find? fun kv=>decide (kv.1=k)).map (·.2)
def putK (kvs:List (κ × V))(k:κ)(v:V):List (κ × V) :=
  if (kvs.any fun kv=>decide (kv.1=k))=true then kvs.map (fun kv=>if kv.1=k then (kv.1,v) else kv) else kvs++[(k,v)]
theorem valV_pos {p:κ × V}{r:List (κ × V)}{k:κ}(e:p.1=k):valV (p::r) k=some p.2:=by simp [valV,List.find?_cons,e]
theorem valV_neg {p:κ × V}{r:List (κ × V)}{k:κ}(e:¬ p.1=k):valV (p::r) k=valV r k:=by simp [valV,List.find?_cons,e]
theorem valV_any (k:κ):∀ kvs:List (κ × V),(kvs.any fun kv=>decide (kv.1=k))=(valV kvs k).isSome
  | []=>rfl
  | p::r=>by
    rw [List.any_cons]
    by_cases e:p.1=k
    · simp only [valV_pos e,decide_eq_true e,Bool.true_or,Option.isSome_some]
    · rw [valV_neg e,decide_eq_false e,Bool.false_or];exact valV_any k r
theorem valV_map (k j:κ)(y:V):∀ kvs:List (κ × V),valV (kvs.map fun kv=>if kv.1=k then (kv.1,y) else kv) j=(valV kvs j).map fun x=>if j=k then y else x
  | []=>rfl
  | p :: r=>by
    have ih:=valV_map k j y r
    rw [List.map_cons]
    by_cases h:p.1=k
    · rw [if_pos h]
      by_cases e:p.1=j
      · rw [valV_pos (p:=(p.1,y)) e,valV_pos e,Option.map_some,if_pos (e.symm.trans h)]
      · rw [valV_neg (p:=(p.1,y)) e,valV_neg e,ih]
    · rw [if_neg h]
      by_cases e:p.1=j
      · rw [valV_pos (p:=p) e,valV_pos e,Option.map_some,if_neg (fun z=>h (e.trans z))]
      · rw [valV_neg (p:=p) e,valV_neg e,ih]
theorem valV_snoc (k j:κ)(y:V):∀ kvs:List (κ × V),valV kvs k=none→valV (kvs++[(k,y)]) j=if j=k then some y else valV kvs j
  | [],_=>by
    by_cases e:k=j
    · rw [if_pos e.symm];exact valV_pos (p:=(k,y)) e
    · rw [if_neg (fun z=>e z.symm)];exact valV_neg (p:=(k,y)) e
  | p::r,hn=>by
    rw [List.cons_append]
    have hk:¬ p.1=k:=fun z=>by rw [valV_pos z] at hn;cases hn
    rw [valV_neg hk] at hn
    have ih:=valV_snoc k j y r hn
    by_cases e:p.1=j
    · rw [valV_pos e,valV_pos e,if_neg (fun z=>hk (e.trans z))]
    · rw [valV_neg e,valV_neg e,ih]
theorem valV_put (kvs:List (κ × V))(k j:κ)(y:V):valV (putK kvs k y) j=if j=k then some y else valV kvs j:=by
  unfold putK
  by_cases a:(kvs.any fun kv=>decide (kv.1=k))=true
  · rw [if_pos a,valV_map]
    rw [valV_any] at a
    by_cases e:j=k
    · obtain ⟨x,hx⟩:=Option.isSome_iff_exists.mp a
      rw [if_pos e,e,hx,Option.map_some,if_pos rfl]
    · rw [if_neg e]
      cases valV kvs j with
      | none=>rfl
      | some x=>rw [Option.map_some,if_neg e]
  · rw [if_neg a]
    refine valV_snoc k j y kvs ?_
    rw [valV_any] at a
    cases q:valV kvs k with
    | none=>rfl
    | some x=>rw [q] at a;exact (a rfl).elim
theorem length_putK (kvs:List (κ × V))(k:κ)(v:V):(putK kvs k v).length≤kvs.length+1:=by
  unfold putK
  split
  · rw [List.length_map];omega
  · rw [List.length_append,List.length_cons,List.length_nil];omega
theorem RelO.isSome_eq {o:Option V}{u:Option Value}(r:RelO o u):o.isSome=u.isSome:=by
  cases o with
  | none=>cases u with
    | none=>rfl
    | some _=>exact (show False from r).elim
  | some _=>cases u with
    | none=>exact (show False from r).elim
    | some _=>rfl
theorem KV.val {kvs:List (κ × V)}{vs:List (κ × Value)}(r:KV kvs vs)(k:κ):RelO (valV kvs k) (valueAt vs k):=by
  unfold KV at r
  induction r with
  | nil=>exact True.intro
  | @cons p q ps qs h t ih =>
    obtain ⟨h1,h2⟩:=h
    by_cases e:p.1=k
    · have e':q.1=k:=h1.symm.trans e
      have b:valueAt (q::qs) k=some q.2:=by simp [valueAt,List.find?_cons,e']
      rw [valV_pos e,b];exact h2
    · have e':¬ q.1=k:=fun z=>e (h1.trans z)
      have b:valueAt (q::qs) k=valueAt qs k:=by simp [valueAt,List.find?_cons,e']
      rw [valV_neg e,b];exact ih
theorem KV.any {kvs:List (κ × V)}{vs:List (κ × Value)}(r:KV kvs vs)(k:κ):(kvs.any fun kv=>decide (kv.1=k))=vs.any fun kv=>decide (kv.1=k):=by
  unfold KV at r
  induction r with
  | nil=>rfl
  | cons h t ih=>rw [List.any_cons,List.any_cons,ih,h.1]
theorem KV.repl {kvs:List (κ × V)}{vs:List (κ × Value)}(r:KV kvs vs)(k:κ){y:V}{u:Value}(ry:RelV y u) :
    KV (kvs.map fun kv=>if kv.1=k then (kv.1,y) else kv) (vs.map fun kv=>if kv.1=k then (kv.1,u) else kv):=by
  unfold KV at r ⊢
  induction r with
  | nil=>exact .nil
  | @cons p q ps qs h t ih =>
    rw [List.map_cons,List.map_cons]
    refine .cons ?_ ih
    obtain ⟨h1,h2⟩:=h
    by_cases e:p.1=k
    · rw [if_pos e,if_pos (h1.symm.trans e)];exact ⟨h1,ry⟩
    · rw [if_neg e,if_neg (fun z=>e (h1.trans z))];exact ⟨h1,h2⟩
theorem KV.put {kvs:List (κ × V)}{vs:List (κ × Value)}(r:KV kvs vs)(k:κ){y:V}{u:Value}(ry:RelV y u):KV (putK kvs k y) (stored vs k u):=by
  unfold putK stored
  rw [r.any k]
  by_cases e:(vs.any fun kv=>decide (kv.1=k))=true
  · rw [if_pos e,if_pos e];exact r.repl k ry
  · rw [if_neg e,if_neg e];exact Paired.snoc r ⟨rfl,ry⟩
theorem KV.length {kvs:List (κ × V)}{vs:List (κ × Value)}(r:KV kvs vs):kvs.length=vs.length:=Paired.length r
end
theorem kV_is {P:Program}{w:World}{k:Key}{u:Value}(r:RelV (kV k) u):(mixKind P w).is k u=true:=by
  cases k with
  | inl i=>obtain ⟨t,e⟩:=(show ∃ t,u=Value.int i t from r);subst e;exact mixKind_int P w i t
  | inr x=>obtain ⟨t,e⟩:=(show ∃ t,u=Value.str x t from r);subst e;exact mixKind_str P w x t
theorem items_are {P:Program}{w:World}:∀ {ks:List Key} {us:List Value},Vals (ks.map kV) us→ItemsAre (mixKind P w) ks us
  | [],_,r=>by rw [List.map_nil] at r;cases r;exact .nil
  | k::ks,_,r=>by
    rw [List.map_cons] at r
    cases r with
    | cons h t=>exact .cons (kV_is h) (items_are t)
abbrev KT (H:Hp):List (List Key × V)→List (List Key × Addr × Value)→Prop:=Paired fun p q=>p.1=q.1∧H q.2.1=some (.tup (p.1.map kV))∧RelV p.2 q.2.2
theorem KT.val {H:Hp}{kvs:List (List Key × V)}{xs:List (List Key × Addr × Value)}(r:KT H kvs xs)(k:List Key):RelO (valV kvs k) ((atKey xs k).map (·.2)):=by
  induction r with
  | nil=>exact True.intro
  | @cons p q ps qs h t ih =>
    obtain ⟨h1,_,h2⟩:=h
    by_cases e:p.1=k
    · have e':q.1=k:=h1.symm.trans e
      have b:atKey (q::qs) k=some q.2:=by simp [atKey,List.find?_cons,e']
      rw [valV_pos e,b];exact h2
    · have e':¬ q.1=k:=fun z=>e (h1.trans z)
      have b:atKey (q::qs) k=atKey qs k:=by simp [atKey,List.find?_cons,e']
      rw [valV_neg e,b];exact ih
theorem KT.repl {H:Hp}{kvs:List (List Key × V)}{xs:List (List Key × Addr × Value)}(r:KT H kvs xs)(k:List Key){y:V}{u:Value}(ry:RelV y u) :
    KT H (kvs.map fun kv=>if kv.1=k then (kv.1,y) else kv) (xs.map (putAt k u)):=by
  induction r with
  | nil=>exact .nil
  | @cons p q ps qs h t ih =>
    rw [List.map_cons,List.map_cons]
    refine .cons ?_ ih
    obtain ⟨h1,h2,h3⟩:=h
    unfold putAt
    by_cases e:p.1=k
    · rw [if_pos e,if_pos (h1.symm.trans e)];exact ⟨h1,h2,ry⟩
    · rw [if_neg e,if_neg (fun z=>e (h1.trans z))];exact ⟨h1,h2,h3⟩
theorem KT.put {H:Hp}{kvs:List (List Key × V)}{xs:List (List Key × Addr × Value)}(r:KT H kvs xs)(k:List Key){b:Addr}{y:V}{u:Value}(hb:H b=some (.tup (k.map kV)))(ry:RelV y u) :
    KT H (putK kvs k y) (storedH xs k b u):=by
  have e:(kvs.any fun kv=>decide (kv.1=k))=(atKey xs k).isSome:=by
    rw [valV_any,(r.val k).isSome_eq,Option.isSome_map]
  unfold putK storedH
  rw [e]
  by_cases q:(atKey xs k).isSome=true
  · rw [if_pos q,if_pos q];exact r.repl k ry
  · rw [if_neg q,if_neg q];exact Paired.snoc r ⟨rfl,hb,ry⟩
theorem KT.keeps {H H':Hp}{kvs:List (List Key × V)}{xs:List (List Key × Addr × Value)}(r:KT H kvs xs)(ht:∀ b ys,H b=some (.tup ys)→H' b=some (.tup ys)):KT H' kvs xs :=
  Paired.mapP r fun _ _ z=>⟨z.1,ht _ _ z.2.1,z.2.2⟩
section
variable {P:Program}{w:World}{H:Hp}{h:Heap}{a:Addr}
theorem rd_of {u:HO}(ok:HOk P w H h)(e:Rd H a u):ObjOk P w H h a u:=e.ok ok
theorem dk_rd {kvs:List (Key × V)}(ok:HOk P w H h)(e:Rd H a (.dK kvs)):kvs.length≤sizeLine∧(a==sysModules)=false∧∃ vs,KV kvs vs∧h.DictOf (mixKind P w) a vs :=
  show ObjOk P w H h a (.dK kvs) from rd_of ok e
theorem dk_of {kvs:List (Key × V)}(ok:HOk P w H h)(e:H a=some (.dK kvs)):kvs.length≤sizeLine∧(a==sysModules)=false∧∃ vs,KV kvs vs∧h.DictOf (mixKind P w) a vs:=dk_rd ok (.inl e)
theorem key_of {ks:List Key}(ok:HOk P w H h)(e:H a=some (.tup (ks.map kV))):(tupleKind (mixKind P w)).is h ks a:=by
  obtain ⟨_,its,r,o,h1,h2,n,h3⟩:=(show ObjOk P w H h a (.tup (ks.map kV)) from ok a _ e)
  exact ⟨o,its.toArray,n,h1,h2,h3,by simpa using items_are r⟩
theorem dt_rd {kvs:List (List Key × V)} (ok:HOk P w H h) (e:Rd H a (.dT kvs)):kvs.length≤sizeLine∧(a==sysModules)=false ∧
    ∃ xs,KT H kvs xs∧h.DictOfH (tupleKind (mixKind P w)) a xs:=by
  obtain ⟨z,y,xs,r,o,es,ep,h1,h2,h3,h4,h5⟩:=(show ObjOk P w H h a (.dT kvs) from rd_of ok e)
  refine ⟨z,y,xs,r,o,es,ep,h1,h2,h3,h4,fun x hx=>?_,h5⟩
  have all:∀ {l:List (List Key × V)} {m:List (List Key × Addr × Value)},KT H l m→∀ x∈m,(tupleKind (mixKind P w)).is h x.1 x.2.1:=by
    intro l m q
    induction q with
    | nil=>intro x hx;exact nomatch hx
    | @cons p q ps qs hq t ih =>
      intro x hx
      rcases List.mem_cons.mp hx with e | hx
      · subst e
        exact key_of ok (by rw [← hq.1];exact hq.2.1)
      · exact ih x hx
  exact all r x hx
theorem dt_of {kvs:List (List Key × V)}(ok:HOk P w H h)(e:H a=some (.dT kvs)):kvs.length≤sizeLine∧(a==sysModules)=false ∧
    ∃ xs,KT H kvs xs∧h.DictOfH (tupleKind (mixKind P w)) a xs:=dt_rd ok (.inl e)
end
def DGet (H:Hp)(a:Addr)(y:V)(r:Option V):Prop :=
  (∃ kvs k,Rd H a (.dK kvs)∧y=kV k∧r=valV kvs k)∨∃ kvs k b,Rd H a (.dT kvs)∧y=.ref b∧H b=some (.tup (k.map kV))∧r=valV kvs k
def DPut (H:Hp)(a:Addr)(y v:V)(H':Hp):Prop :=
  (∃ kvs k,H a=some (.dK kvs)∧y=kV k∧kvs.length<sizeLine∧H'=upd H a (.dK (putK kvs k v))) ∨
  ∃ kvs k b,H a=some (.dT kvs)∧y=.ref b∧H b=some (.tup (k.map kV))∧kvs.length<sizeLine∧H'=upd H a (.dT (putK kvs k v))
theorem DPut.k {H:Hp}{a:Addr}{kvs:List (Key × V)}{k:Key}{v:V}(e:H a=some (.dK kvs))(hl:kvs.length<sizeLine):DPut H a (kV k) v (upd H a (.dK (putK kvs k v))):=.inl ⟨kvs,k,e,rfl,hl,rfl⟩
section
variable {X:Cx}{pins:List (Addr × Obj)}{σ:St}{H:Hp}{s:Shared}{a:Addr}{y v:V}{u r:Value}{o:Option V}{A:Around}{E:Value→Shared→Prop}
theorem Inv.big (I:Inv X pins σ H s):sysModules<s.heap.objs.size:=by
  have h:mainGlobals<s.heap.objs.size:=(I.mod.glob.keeps I.bk).lt
  exact Nat.lt_trans (by decide) h
theorem d_getItem {Q:Value→Shared→Prop}(hu:A.units+1<cLine)(I:Inv X pins σ H s)(g:DGet H a y (some v))(ry:RelV y u)(h:∀ w' s',Inv X pins σ H s'→RelV v w'→Q w' s') :
    wpAny (model X.prog X.w) A (getItem (.ref a) u) Q E s:=by
  rcases g with ⟨kvs,k,e,ey,l⟩ | ⟨kvs,k,b,e,ey,eb,l⟩
  · subst ey
    obtain ⟨z,hd,vs,rel,dd⟩:=dk_rd I.hok e
    obtain ⟨w',hw,rw'⟩:=RelO.some_of (v:=v) (o:=valueAt vs k) (by rw [l];exact rel.val k)
    exact wpAny_getItem_of (kV_is ry) dd.mapOf hw (h w' _ (I.tok _) rw')
  · subst ey
    cases (show u=Value.ref b from ry)
    obtain ⟨z,hd,xs,rel,dd⟩:=dt_rd I.hok e
    obtain ⟨w',hw,rw'⟩:=RelO.some_of (v:=v) (o:=(atKey xs k).map (·.2)) (by rw [l];exact rel.val k)
    obtain ⟨p,hp,hp2⟩:=Option.map_eq_some_iff.mp hw
    refine wpAny_getItem_heap (tupleKind_room_in1 hu) (key_of I.hok eb) dd hp ?_
    rw [hp2]
    exact h w' _ (I.tok _) rw'
theorem d_write {h':Heap}{t':Nat}{ob:HO}(I:Inv X pins σ H s)(mu:Mut (H a))(hs:Heap.SameBut a s.heap h')(he:∃ q,h'.get? a=some q)(new:ObjOk X.prog X.w (upd H a ob) h' a ob) :
    Inv X pins σ (upd H a ob) { s with heap:=h',toks:=t' } :=
  I.write (x:=a) (e:=a) mu (.inl rfl) (fun b q hb z=>(hs.2 b hb).trans z) he new
theorem dk_new {P:Program}{w:World}{H':Hp}{h':Heap}{kvs:List (Key × V)}{vs:List (Key × Value)}(z:kvs.length≤sizeLine)(hd:(a==sysModules)=false)(rel:KV kvs vs)(dd:h'.DictOf (mixKind P w) a vs) :
    ObjOk P w H' h' a (.dK kvs):=⟨z,hd,vs,rel,dd⟩
theorem d_setItem {H':Hp}{Q:Unit→Shared→Prop}(hu:A.units+1<cLine)(I:Inv X pins σ H s)(g:DPut H a y v H')(ry:RelV y u)(rv:RelV v r)(h:∀ s',Inv X pins σ H' s'→Q () s') :
    wpAny (model X.prog X.w) A (setItem (.ref a) u r) Q E s:=by
  rcases g with ⟨kvs,k,e,ey,l,eH⟩ | ⟨kvs,k,b,e,ey,eb,l,eH⟩
  · subst ey eH
    obtain ⟨z,hd,vs,rel,dd⟩:=dk_of I.hok e
    have hz:vs.length≤sizeLine:=by rw [← rel.length];exact z
    have hl:(putK kvs k v).length≤sizeLine:=by have:=length_putK kvs k v;omega
    refine wpAny_setItem_pairs (hsz:=hz) (kV_is ry) dd fun h' dd' hs=>h _ ?_
    have he:∃ q,h'.get? a=some q:=let ⟨q,_,_,hq,_⟩:=dd';⟨q,hq⟩
    exact d_write I (by rw [e];exact True.intro) hs he (dk_new hl hd (rel.put k rv) dd')
  · subst ey eH
    cases (show u=Value.ref b from ry)
    obtain ⟨z,hd,xs,rel,dd⟩:=dt_of I.hok e
    have hz:xs.length≤sizeLine:=by rw [← Paired.length rel];exact z
    have hl:(putK kvs k v).length≤sizeLine:=by have:=length_putK kvs k v;omega
    refine wpAny_setItem_heap (hsz:=hz) (tupleKind_room_in1 hu) (key_of I.hok eb) dd fun h' dd' hs=>h _ ?_
    obtain ⟨q,es,ep,hq,h2,h3,h4,_,h5⟩:=dd'
    refine d_write I (by rw [e];exact True.intro) hs ⟨q,hq⟩ ⟨hl,hd,_,(rel.put k eb rv).keeps fun c ys ec=>?_,q,es,ep,hq,h2,h3,h4,h5⟩
    rw [upd_ne (ne_of ec e (fun z=>nomatch z))]
    exact ec
end
section
variable {X:Cx}{pins:List (Addr × Obj)}{σ:St}{H:Hp}{s:Shared}{a:Addr}{kvs:List (Key × V)}{k:Key}{u:Value}{A:Around}{E:Value→Shared→Prop}
end
def NoSl (i:Expr):Prop:=∀ ov iv,subscripted i false ov iv=operate [ov,iv] (getItem ov iv)
theorem subD_of {prog:Program}{w:World}{A:Around}{E:Value→Shared→Prop}{s:Shared}{env:Env}{value slice:Expr}{pos:Pos}{T id:String}{Q:Value→Shared→Prop}
    (hl:typeLookup (.type T) "__getitem__"=pure (some (.builtin id))) (hs:NoSl slice)
    (h:wpAny (model prog w) A (eval value env) (fun o s₁=>wpAny (model prog w) A (eval slice env) (fun i s₂=>s₂.TypeIs o T∧wpAny (model prog w) A (getItem o i) Q E s₂) E s₁) E s) :
    wpAny (model prog w) A (eval (.Subscript value slice pos) env) Q E s:=by
  refine Subscript_ (wpAny_mono h (fun o s₁ h₁=>wpAny_mono h₁ (fun i s₂ h₂=>?_) fun _ _ x=>x) fun _ _ x=>x)
  obtain ⟨hT,h₂⟩:=h₂
  unfold subscriptTail
  refine wpAny_bind ?_
  rw [getitemInPython_of_ne hT.not_modules]
  refine wpAny_bind (wpAny_specialOf hT hl ?_)
  have fin:wpAny (model prog w) A (subscripted slice false o i) (fun r s₃=>wpAny (model prog w) A (letTemporaryGo value o r >>= fun _=>pure r) Q E s₃) E s₂:=by
    rw [hs o i]
    exact wpAny_operating (wpAny_mono h₂ (fun r s₃ h₃=>wpAny_bind (wpAny_letTemporaryGo (wpAny_pure h₃))) fun _ _ x=>x)
  first
    | exact wpAny_pure (wpAny_bind fin)
    | exact wpAny_bind (wpAny_pure (wpAny_bind fin))
    | exact wpAny_bind fin
theorem dict_typeIs {X:Cx}{pins:List (Addr × Obj)}{σ:St}{H:Hp}{s:Shared}{a:Addr}{y:V}{o:Option V}(I:Inv X pins σ H s)(g:DGet H a y o):s.TypeIs (.ref a) "dict":=by
  rcases g with ⟨kvs,k,e,_,_⟩ | ⟨kvs,k,b,e,_,_,_⟩
  · obtain ⟨_,_,vs,_,dd⟩:=dk_rd I.hok e
    exact dd.typeIs
  · obtain ⟨_,_,xs,_,dd⟩:=dt_rd I.hok e
    exact dd.typeIs
def tDGet (td ty:TE):TE:=fun σ H Q=>td σ H fun x H1=>ty σ H1 fun y H2=>∃ a v,x=.ref a∧DGet H2 a y (some v)∧Q v H2
def sDPut (td ty tv:TE):TS:=fun D σ H=>tv σ H fun v H1=>td σ H1 fun x H2=>ty σ H2 fun y H3=>∃ a H4,x=.ref a∧DPut H3 a y v H4∧D.nx σ H4
section
variable {X:Cx}{o i e value:Expr}{pos pos' tpos:Pos}{td ty tv:TE}
theorem pe_dget (hu:X.A.units+1<cLine)(ho:PE X o td)(hi:PE X i ty)(hs:NoSl i):PE X (.Subscript o i pos) (tDGet td ty):=by
  intro pins s σ H Q I h
  refine subD_of PySem.F.slot_dict_getitem.lookup hs (thn (ho pins s σ H _ I h) fun u s1 ⟨x,H1,I1,rx,q1⟩=>thn (hi pins s1 σ H1 _ I1 q1) fun iv s2 ⟨y,H2,I2,ry,a,v,ex,g,q2⟩=>?_)
  subst ex
  obtain rfl:u=Value.ref a:=rx
  exact ⟨dict_typeIs I2 g,d_getItem hu I2 g ry fun w' s3 I3 rw'=>⟨v,H2,I3,rw',q2⟩⟩
theorem ps_dput (hu:X.A.units+1<cLine)(ho:PE X o td)(hi:PE X i ty)(hv:PE X value tv)(hs:swapsWith value (some (.Subscript o i pos')) pos.line X.env=pure false) :
    PS X (.Assign [.Subscript o i pos'] value pos) (sDPut td ty tv):=by
  intro pins s σ H D I h
  refine wpAny_Assign_Subscript (thn (hv pins s σ H _ I h) fun r s1 ⟨v,H1,I1,rv,q1⟩=>thn (ho pins s1 σ H1 _ I1 q1) fun u s2 ⟨x,H2,I2,rx,q2⟩=>thn (hi pins s2 σ H2 _ I2 q2) fun iv s3 ⟨y,H3,I3,ry,a,H4,ex,g,q3⟩=>?_) hs
  subst ex
  obtain rfl:u=Value.ref a:=rx
  exact d_setItem hu I3 g ry rv fun s4 I4=>⟨σ,H4,I4,q3⟩
end
theorem dk_empty {P:Program}{w:World}{H:Hp}(h:Heap)(hb:sysModules<h.objs.size):ObjOk P w H (h.push { cls:=.type "dict",data:=.dict #[] }) h.objs.size (.dK []) :=
  ⟨Nat.zero_le _,beq_eq_false_iff_ne.mpr (Ne.symm (Nat.ne_of_lt hb)),[],.nil,Heap.DictOf.new h⟩
def tDNewK:TE:=fun _ H Q=>∀ p,H p=none→Q (.ref p) (upd H p (.dK []))
section
variable {X:Cx}{pos:Pos}
theorem pe_dnewK:PE X (.Dict [] [] pos) tDNewK:=fun pins s σ H Q I h =>
  wpAny_Dict_empty ⟨.ref s.heap.objs.size,_,I.laid (a:=s.heap.objs.size) (o:=.dK []) (t':=s.toks) (fun _ _ q=>Heap.get?_push_of_some _ q) (Nat.le_refl _) (dk_empty s.heap I.big),rfl,h _ (I.hok.fresh (Nat.le_refl _))⟩
end
structure M1 (X:Cx)(o:Expr)(m:Str)(apos:Pos)(e:Expr)(cpos:Pos):Prop where
  base:attributeBase o m X.env (eval o X.env)=eval o X.env
  few:((backTo cpos (starEach [e] X.env)).all (fun x=>!x.1)&&(backToKw cpos (keywordEach [] X.env)).all (fun x=>x.1.isSome)
    && decide (([e]:List Expr).length+([]:List Keyword).length+(if ([]:List Keyword).isEmpty then 0 else 1)<30))=true
  line:(apos.endLine==cpos.line)=true
  trees:backTo cpos (starEach [e] X.env)=[(false,eval e X.env)]
structure M2 (X:Cx)(o:Expr)(m:Str)(apos:Pos)(e f:Expr)(cpos:Pos):Prop where
  base:attributeBase o m X.env (eval o X.env)=eval o X.env
  few:((backTo cpos (starEach [e,f] X.env)).all (fun x=>!x.1)&&(backToKw cpos (keywordEach [] X.env)).all (fun x=>x.1.isSome)
    && decide (([e,f]:List Expr).length+([]:List Keyword).length+(if ([]:List Keyword).isEmpty then 0 else 1)<30))=true
  line:(apos.endLine==cpos.line)=true
  trees:backTo cpos (starEach [e,f] X.env)=[(false,eval e X.env),(false,eval f X.env)]
section
variable {X:Cx}{pins:List (Addr × Obj)}{σ:St}{H:Hp}{s:Shared}{a:Addr}{y d:V}{u r:Value}{o:Option V}{A:Around}{E:Value→Shared→Prop}
end
section
variable {X:Cx}{o e f:Expr}{apos cpos:Pos}{td ty tx:TE}
end
section
variable {X:Cx}{pins:List (Addr × Obj)}{σ:St}{H:Hp}{s:Shared}{a:Addr}{kvs:List (Key × V)}{A:Around}{E:Value→Shared→Prop}
end
section
variable {X:Cx}{pins:List (Addr × Obj)}{σ:St}{H:Hp}{s:Shared}{a:Addr}{y:V}{u:Value}{A:Around}{E:Value→Shared→Prop}
end
section
variable {X:Cx}
end
section
variable {κ:Type}[DecidableEq κ]
end
end L2
namespace BM
open PySem L2 PyProof.Rows
def wd:List Nat→Nat
  | []=>0
  | p::r=>2^p+wd r
def Up:Nat→List Nat→Prop
  | _,[]=>True
  | a,p::r=>a≤p∧Up (p+1) r
def pl (n w:Nat):List Nat:=(List.range n).filter w.testBit
inductive Dec:List Nat→List (Nat × Nat)→Prop
  | nil:Dec [] []
  | cons {p n:Nat} {rest:List Nat} {rs:List (Nat × Nat)} (u:Up (p+n+2) rest) (h:Dec rest rs):Dec (List.range' p (n+1)++rest) ((p,p+n)::rs)
end BM
namespace L2
open PySem PySem.Spec PyProof.Rows
section
variable {prog:Program}{w:World}{A:Around}{R:Result→Shared→Prop}{s:Shared}
theorem compLoop_any {elt target iter:Expr}{ifs:List Expr}{scope:Scope}{pos:Pos}{it acc:Value}{env:Env}(I:Nat→Shared→Prop)
    (turn : ∀ n s,I n s→wpAny (model prog w) A (pyNext it) (fun r s₁=>match r with
      | none=>R (.ok .next) s₁
      | some v=>wpAny (model prog w) A (letOwnedTupleGo target it v) (fun _ s₀=>wpAny (model prog w) A (assign target env v) (fun _ s₂ =>
          wpAny (model prog w) A (forIn ifs true fun c r=>if r=true then do let ok ← isTrue c env (eval c env);pure (ForInStep.yield ok) else pure (ForInStep.yield r)) (fun ok s₃ =>
            if ok=true then wpAny (model prog w) A (eval elt env) (fun x s₄ =>
              wpAny (model prog w) A (call (.builtin "list.append") [acc,x]) (fun _ s₅=>∃ m,m<n∧I m s₅) (fun _ _=>False) s₄) (fun _ _=>False) s₃
            else ∃ m,m<n∧I m s₃) (fun _ _=>False) s₂) (fun _ _=>False) s₀) (fun _ _=>False) s₁) (fun _ _=>False) s)
    (n:Nat) (h:I n s) :
    codeAny (model prog w) A (.compLoop (.ListComp elt [⟨target,iter,ifs,0⟩] scope pos) 0 it acc env) R s:=by
  refine codeAny_loop rfl I (fun n s hI=>?_) n h
  show wpAny _ A ((compTurn (.ListComp elt [⟨target,iter,ifs,0⟩] scope pos) 0 it acc env).onRaise (fun x=>do noteFrame x env;theTreesLotGoes x)) _ _ s
  refine wpAny_noted ?_
  rw [compTurn_list]
  refine wpAny_bind (wpAny_standAt (wpAny_bind (wpAny_mono (turn n s hI) (fun r s₁ h₁=>?_) fun _ _ h'=>h'.elim)))
  cases r with
  | none=>exact wpAny_pure h₁
  | some v =>
    refine wpAny_bind (wpAny_mono h₁ (fun _ s₀ h₀=>?_) fun _ _ h'=>h'.elim)
    refine wpAny_bind (wpAny_mono h₀ (fun _ s₂ h₂=>wpAny_bind (wpAny_mono h₂ (fun ok s₃ h₃=>?_) fun _ _ h'=>h'.elim)) fun _ _ h'=>h'.elim)
    cases ok with
    | false=>exact wpAny_pure ⟨rfl,h₃⟩
    | true =>
      exact wpAny_bind (wpAny_bind (wpAny_mono h₃ (fun x s₄ h₄=>wpAny_bind (wpAny_mono h₄ (fun _ s₅ h₅=>wpAny_pure (wpAny_pure ⟨rfl,h₅⟩)) fun _ _ h'=>h'.elim)) fun _ _ h'=>h'.elim))
end
theorem closure_aux {env:Env}:∀ (names:List (Str × NameKind)) (acc:List (Str × Addr)),(∀ z∈names,z.2=.free→∃ c,env.cells.lookup z.1=some c) →
    ∃ cl,(forIn names acc fun x r=>if (x.2==NameKind.free)=true then do let a ← cellOf env x.1;pure (ForInStep.yield ((x.1,a)::r)) else pure (ForInStep.yield r):Sem (List (Str × Addr)))=pure cl ∧
      (∀ y c,cl.lookup y=some c→acc.lookup y=some c∨env.cells.lookup y=some c)∧(∀ y,((∃ c,acc.lookup y=some c)∨(y,NameKind.free)∈names)→∃ c,cl.lookup y=some c)
  | [],acc,_=>⟨acc,by rw [List.forIn_nil],fun _ _ h=>.inl h,fun y h=>by
      rcases h with h | h
      · exact h
      · simp at h⟩
  | (n, k)::r,acc,h=>by
    have hr:∀ z∈r,z.2=.free→∃ c,env.cells.lookup z.1=some c:=fun z hz=>h z (List.mem_cons_of_mem _ hz)
    by_cases hk:k=.free
    · subst hk
      obtain ⟨c,hc⟩:=h (n,.free) List.mem_cons_self rfl
      obtain ⟨cl,e,h1,h2⟩:=closure_aux r ((n,c)::acc) hr
      refine ⟨cl,?_,fun y d hd=>?_,fun y hy=>?_⟩
      · rw [List.forIn_cons]
        have e1:cellOf env n=pure c:=by unfold cellOf;rw [hc]
        simp only [beq_self_eq_true,if_true,e1,pure_bind]
        exact e
      · rcases h1 y d hd with z | z
        · rw [List.lookup_cons] at z
          cases hy:y==n with
          | true =>
            rw [hy] at z
            have:y=n:=by simpa using hy
            subst this
            cases z
            exact .inr hc
          | false=>rw [hy] at z;exact .inl z
        · exact .inr z
      · refine h2 y ?_
        rcases hy with ⟨d,hd⟩ | hy
        · cases q:y==n with
          | true=>exact .inl ⟨c,by rw [List.lookup_cons,q]⟩
          | false=>exact .inl ⟨d,by rw [List.lookup_cons,q];exact hd⟩
        · rcases List.mem_cons.mp hy with z | z
          · cases z
            exact .inl ⟨c,by rw [List.lookup_cons,beq_self_eq_true]⟩
          · exact .inr z
    · obtain ⟨cl,e,h1,h2⟩:=closure_aux r acc hr
      refine ⟨cl,?_,h1,fun y hy=>h2 y ?_⟩
      · rw [List.forIn_cons]
        have:(k==NameKind.free)=false:=by simpa using hk
        simp only [this,Bool.false_eq_true,if_false,pure_bind]
        exact e
      · rcases hy with z | z
        · exact .inl z
        · rcases List.mem_cons.mp z with q | q
          · cases q
            exact absurd rfl hk
          · exact .inr q
theorem closure_of {scope:Scope}{env:Env}(h:∀ z∈scope.names,z.2=.free→∃ c,env.cells.lookup z.1=some c) :
    ∃ cl,closureFor scope env=pure cl∧(∀ y c,cl.lookup y=some c→env.cells.lookup y=some c)∧∀ y,(y,NameKind.free)∈scope.names→∃ c,cl.lookup y=some c:=by
  obtain ⟨cl,e,h1,h2⟩:=closure_aux (env:=env) scope.names [] h
  refine ⟨cl,?_,fun y c hc=>?_,fun y hy=>h2 y (.inr hy)⟩
  · unfold closureFor
    exact (congrArg (fun m:Sem (List (Str × Addr))=>m >>= fun cs=>pure cs) e).trans (pure_bind _ _)
  · rcases h1 y c hc with z | z
    · cases z
    · exact z
def compX (X:Cx)(scope:Scope)(own:List Str)(caps:List Nat)(cl:List (Str × Addr))(C:Addr)(s₃:Shared)(H₃:Hp)(fp:List Addr):Cx :=
  { X with env:=compEnvC scope cl C X.env,N:=own++caps.map fun j=>X.N.getD j Str.empty,s₀:=s₃,H₀:=H₃,outer:=X.stack,stack:=X.stack,ex:=fp,fn:=fun _=>false,pn:=[],xe:=fun _ _=>False }
def capSt (n:Nat)(caps:List Nat)(σ:St):St:=List.replicate n none++caps.map fun j=>σ.getD j none
def compOk (sc osc:Scope):Bool :=
  (sc.kind==.function)&&sc.names.all fun z=>match z.2 with
    | .cell=>false
    | .local=>sc.names.lookup z.1==some .local
    | .free=>osc.names.lookup z.1==some .cell||osc.names.lookup z.1==some .free
    | _=>true
def capOk (X:Cx)(sc:Scope):List Nat→Prop
  | []=>True
  | j::r=>(∃ y,X.N[j]?=some y∧sc.names.lookup y=some .free∧(X.env.scope.names.lookup y=some .cell∨X.env.scope.names.lookup y=some .free))∧capOk X sc r
def gOwn (n:Nat)(g:TG):Prop:=∀ v σ H Q,g v σ H Q→g v σ H fun σ' H'=>(σ'.length=σ.length∧σ'.drop n=σ.drop n)∧Q σ' H'
theorem gOwn_name:gOwn 1 (gName 0):=fun v σ H Q h=>⟨⟨by simp,by cases σ<;>simp⟩,h⟩
def tNoTest:TT:=fun _ H Q=>Q true H
def tComp (n:Nat) (caps:List Nat) (wi:TI) (g:TG) (tt:TT) (te:TE):TE:=fun σ H Q=>wi σ H fun J H1=>∀ D,H1 D=none→∃ W:Nat→Nat→Hp→Prop,(∃ m,W 0 m (upd H1 D (.lst [])))∧∀ i m H2,W i m H2 →
  (J.stop i H2∧Q (.ref D) H2)∨(J.go i H2∧∀ x H3,J.yld i H2 x H3→g x (capSt n caps σ) H3 fun σ4 H4=>tt σ4 H4 fun b H5 =>
    if b=true then te σ4 H5 fun y H6=>∃ xs,H6 D=some (.lst xs)∧xs.length<sizeLine∧∃ m',m'<m∧W (i+1) m' (upd H6 D (.lst (xs++[y]))) else ∃ m',m'<m∧W (i+1) m' H5)
def PTs (X:Cx) (ifs:List Expr) (t:TT):Prop :=
  ∀ (pins:List (Addr × Obj)) (s:Shared) (σ:St) (H:Hp) (Q:Bool→Hp→Prop),Inv X pins σ H s→t σ H Q →
    wpAny (model X.prog X.w) X.A (forIn ifs true fun c r=>if r=true then do let ok ← isTrue c X.env (eval c X.env);pure (ForInStep.yield ok) else pure (ForInStep.yield r)) (TP X pins σ Q) X.xe s
theorem pts_nil {X:Cx}:PTs X [] tNoTest:=fun _ _ _ H _ I h=>wpAny_tests_nil ⟨H,I,h⟩
theorem pts_one {X:Cx}{c:Expr}{t:TT}(h:PT X c t):PTs X [c] t:=fun pins s σ H Q I q=>wpAny_tests_one (h pins s σ H Q I q)
theorem lookup_relabel_free {env:Env}:∀ {names:List (Str × NameKind)} {x:Str} {k:NameKind},names.lookup x=some k →
    (names.map fun (n,k)=>if (k==NameKind.free&&env.scope.kind==.function&&env.kindOf n==some .cell) then (n,NameKind.cell) else (n,k)).lookup x=some (if (k==NameKind.free&&env.scope.kind==.function&&env.kindOf x==some .cell) then NameKind.cell else k)
  | [],_,_,h=>by simp at h
  | (n,k')::r,x,k,h=>by
    have ih:=@lookup_relabel_free env r x k
    show List.lookup x ((if (k'==NameKind.free&&env.scope.kind==.function&&env.kindOf n==some .cell)=true then (n,NameKind.cell) else (n,k'))::_)=_
    cases hx:x==n with
    | true =>
      simp only [List.lookup_cons,hx] at h
      cases h
      have:x=n:=by simpa using hx
      subst this
      split<;>simp [List.lookup_cons]
    | false =>
      simp only [List.lookup_cons,hx] at h
      split
      · simp only [List.lookup_cons,hx];exact ih h
      · simp only [List.lookup_cons,hx];exact ih h
theorem lookup_relabel_inv {env:Env}:∀ {names:List (Str × NameKind)} {x:Str} {k:NameKind},
    (names.map fun (n,k)=>if (k==NameKind.free&&env.scope.kind==.function&&env.kindOf n==some .cell) then (n,NameKind.cell) else (n,k)).lookup x=some k →
    ∃ k',(x,k')∈names∧(k=k'∨(k'=.free∧k=.cell))
  | [],_,_,h=>by simp at h
  | (n, k')::r,x,k,h=>by
    have ih:=@lookup_relabel_inv env r x k
    rw [List.map_cons] at h
    cases hc:(k'==NameKind.free&&env.scope.kind==.function&&env.kindOf n==some .cell) with
    | true =>
      simp only [hc,if_true,List.lookup_cons] at h
      cases hx:x==n with
      | true =>
        simp only [hx,Option.some.injEq] at h
        have e:x=n:=by simpa using hx
        have:k'=.free:=by
          simp only [Bool.and_eq_true,beq_iff_eq] at hc
          exact hc.1.1
        exact ⟨.free,by rw [e,← this];exact List.mem_cons_self,.inr ⟨rfl,h.symm⟩⟩
      | false =>
        simp only [hx] at h
        obtain ⟨q,m,z⟩:=ih h
        exact ⟨q,List.mem_cons_of_mem _ m,z⟩
    | false =>
      simp only [hc,Bool.false_eq_true,if_false,List.lookup_cons] at h
      cases hx:x==n with
      | true =>
        simp only [hx,Option.some.injEq] at h
        have e:x=n:=by simpa using hx
        exact ⟨k',by rw [e];exact List.mem_cons_self,.inl h.symm⟩
      | false =>
        simp only [hx] at h
        obtain ⟨q,m,z⟩:=ih h
        exact ⟨q,List.mem_cons_of_mem _ m,z⟩
theorem cok_kind {sc osc:Scope}(h:compOk sc osc=true):sc.kind=.function:=by
  unfold compOk at h
  simp only [Bool.and_eq_true,beq_iff_eq] at h
  exact h.1
theorem cok_all {sc osc:Scope}(h:compOk sc osc=true):∀ z∈sc.names,(match z.2 with
    | .cell=>false
    | .local=>sc.names.lookup z.1==some .local
    | .free=>osc.names.lookup z.1==some .cell||osc.names.lookup z.1==some .free
    | _=>true)=true:=by
  unfold compOk at h
  simp only [Bool.and_eq_true] at h
  exact List.all_eq_true.mp h.2
theorem cok_cell {sc osc:Scope}(h:compOk sc osc=true):∀ z∈sc.names,z.2≠.cell:=fun z hz e=>by
  have:=cok_all h z hz
  rw [e] at this
  cases this
theorem cok_loc {sc osc:Scope}(h:compOk sc osc=true):∀ z∈sc.names,z.2=.local→sc.names.lookup z.1=some .local:=fun z hz e=>by
  have:=cok_all h z hz
  rw [e] at this
  simpa using this
theorem cok_free {sc osc:Scope}(h:compOk sc osc=true):∀ z∈sc.names,z.2=.free→osc.names.lookup z.1=some .cell∨osc.names.lookup z.1=some .free:=fun z hz e=>by
  have:=cok_all h z hz
  rw [e] at this
  simpa using this
theorem capOk.get {X:Cx}{sc:Scope}:∀ {caps:List Nat} {j:Nat},capOk X sc caps→j∈caps→∃ y,X.N[j]?=some y∧sc.names.lookup y=some .free∧(X.env.scope.names.lookup y=some .cell∨X.env.scope.names.lookup y=some .free)
  | [],_,_,h=>by simp at h
  | i::r,j,h,hj=>by
    rcases List.mem_cons.mp hj with e | e
    · subst e;exact h.1
    · exact h.2.get e
theorem mem_of_lookupN {x:Str}{k:NameKind}:∀ {l:List (Str × NameKind)},l.lookup x=some k→(x,k)∈l
  | [],h=>by simp at h
  | (n,k')::r,h=>by
    rw [List.lookup_cons] at h
    cases hx:x==n with
    | true =>
      simp only [hx,Option.some.injEq] at h
      have e:x=n:=by simpa using hx
      rw [e,h]
      exact List.mem_cons_self
    | false =>
      simp only [hx] at h
      exact List.mem_cons_of_mem _ (mem_of_lookupN h)
section
variable {X:Cx}{pins:List (Addr × Obj)}{σ:St}{H2:Hp}{s2:Shared}{scope:Scope}{own:List Str}{caps:List Nat}
theorem capSt_get {n:Nat}{caps:List Nat}{σ:St}{i:Nat}{v:V}(h:(capSt n caps σ)[i]?=some (some v)):n≤i∧∃ j,caps[i-n]?=some j∧σ[j]?=some (some v):=by
  unfold capSt at h
  rw [List.getElem?_append] at h
  split at h
  · rename_i hl
    rw [List.length_replicate] at hl
    rw [List.getElem?_replicate,if_pos hl] at h
    cases h
  · rename_i hl
    rw [List.length_replicate] at h hl
    refine ⟨by omega,?_⟩
    rw [List.getElem?_map] at h
    cases q:caps[i-n]? with
    | none=>rw [q] at h;cases h
    | some j =>
      rw [q] at h
      refine ⟨j,rfl,?_⟩
      have h:σ.getD j none=some v:=Option.some.inj h
      rw [List.getD_eq_getElem?_getD] at h
      cases z:σ[j]? with
      | none=>rw [z] at h;cases h
      | some o=>rw [z] at h;exact congrArg some h
theorem Inv.comp {n:Nat} {fp:List Addr} {cl:List (Str × Addr)} {C:Addr} {h4:Heap} {tk:Nat}
    (I2:Inv X pins σ H2 s2) (hok:compOk scope X.env.scope=true) (hcap:capOk X scope caps) (hown:own.length=n)
    (cl1:∀ y c,cl.lookup y=some c→X.env.cells.lookup y=some c) (cl2:∀ y,(y,NameKind.free)∈scope.names→∃ c,cl.lookup y=some c)
    (hfp:∀ b∈fp,FpOk X pins H2 b) (hobj:∀ b∈fp,b<s2.heap.objs.size) (hC:C=s2.heap.objs.size) (hn:h4.Ns C fun _=>none)
    (hsb:∀ b o,s2.heap.get? b=some o→h4.get? b=some o) :
    Inv (compX X scope own caps cl C s2 H2 fp) [] (capSt n caps σ) H2 { s2 with heap:=h4,toks:=tk }:=by
  have hkind:=cok_kind hok
  have ok':(compX X scope own caps cl C s2 H2 fp).Ok:=by
    refine ⟨I2.ok.mod,hkind,I2.ok.glob,I2.ok.blt,by rw [hC];exact Nat.le_refl _,fun x y c h1 h2=>I2.ok.inj x y c (cl1 x c h1) (cl1 y c h2),fun x hx=>?_,fun x c h=>(by cases h),I2.ok.hd,I2.ok.frames,.inl rfl,fun b hb=>⟨?_,fun x c h=>(hfp b hb).2.2.2.2.1 x c (cl1 x c h)⟩,I2.bs,?_,fun b o e hb=>?_,fun b hb hf=>?_,I2.stack,I2.stkFree⟩
    · have:∃ k',(x,k')∈scope.names∧(k'=.cell∨k'=.free):=by
        rcases hx with hx | hx
        · obtain ⟨k',m,z⟩:=lookup_relabel_inv (env:=X.env) (names:=scope.names) (x:=x) (k:=.cell) hx
          rcases z with z | z
          · exact ⟨k',m,.inl z.symm⟩
          · exact ⟨k',m,.inr z.1⟩
        · obtain ⟨k',m,z⟩:=lookup_relabel_inv (env:=X.env) (names:=scope.names) (x:=x) (k:=.free) hx
          rcases z with z | z
          · exact ⟨k',m,.inr z.symm⟩
          · cases z.2
      obtain ⟨k',m,z | z⟩:=this
      · subst z;exact absurd rfl (cok_cell hok _ m)
      · subst z;exact cl2 x m
    · show b≠C
      rw [hC];exact Nat.ne_of_lt (hobj b hb)
    · exact Nat.le_trans I2.ok.bsz (Nat.le_trans I2.ok.above (Nat.le_of_lt I2.lt))
    · rcases (hfp b hb).2.2.2.1 with z | z
      · exact I2.ok.noex b o e z
      · exact absurd (Nat.lt_of_lt_of_le (Heap.lt_size e) (Nat.le_trans I2.ok.bsz z)) (Nat.lt_irrefl _)
    · rcases List.mem_cons.mp (I2.stkSub b hf) with z | z
      · exact (hfp b hb).2.1 z
      · exact (hfp b hb).2.2.1 z
  have hCn:H2 C=none:=I2.hok.fresh (by rw [hC];exact Nat.le_refl _)
  refine ⟨ok',rfl,I2.bare,Un.kept hsb,⟨_,hn,fun i x v e1 e2 e3=>?_⟩,fun x c e=>?_,hCn,fun x c e=>I2.freeC x c (cl1 x c e),fun p hp=>(by cases hp),I2.hok.kept hsb,?_⟩
  · obtain ⟨hi,j,hj,hv⟩:=capSt_get e2
    have e1:(own++caps.map fun j=>X.N.getD j Str.empty)[i]?=some x:=e1
    rw [List.getElem?_append_right (by rw [hown];exact hi),List.getElem?_map,hown,hj] at e1
    have e1:X.N.getD j Str.empty=x:=Option.some.inj e1
    obtain ⟨y,hy,hfree,hout⟩:=hcap.get (List.mem_of_getElem? hj)
    rw [List.getD_eq_getElem?_getD,hy] at e1
    have e1:y=x:=e1
    subst e1
    obtain ⟨m,hm,hl⟩:=I2.loc
    obtain ⟨u,r,l⟩:=hl j y v hy hv (.inr hout)
    refine ⟨u,r,.inr ⟨?_,?_⟩⟩
    · have:=lookup_relabel_free (env:=X.env) hfree
      show (relabel scope X.env).names.lookup y=some .cell∨(relabel scope X.env).names.lookup y=some .free
      unfold relabel
      rw [this]
      split
      · exact .inl rfl
      · exact .inr rfl
    · obtain ⟨c,hc⟩:=cl2 y (mem_of_lookupN hfree)
      refine ⟨c,hc,?_⟩
      rcases l with ⟨k,_⟩ | ⟨_,c',hc',hcell⟩
      · have k:X.env.scope.names.lookup y=some .local:=k
        rcases hout with z | z<;>(rw [k] at z;cases z)
      · rw [cl1 y c hc] at hc'
        cases hc'
        obtain ⟨o,ho,hd⟩:=hcell
        exact ⟨o,hsb _ _ ho,hd⟩
  · obtain ⟨v,o,ho,hd⟩:=I2.cell x c (cl1 x c e)
    exact ⟨v,o,hsb _ _ ho,hd⟩
  · show (capSt n caps σ).length=(own++caps.map fun j=>X.N.getD j Str.empty).length
    unfold capSt
    rw [List.length_append,List.length_append,List.length_replicate,List.length_map,List.length_map,hown]
theorem comp_core {n:Nat} {tg iter elt:Expr} {ifs:List Expr} {pos:Pos} {it:Addr} {fp:List Addr} {tn:Nat→Heap→Prop} {J:It} {cl:List (Str × Addr)} {g:TG} {tt:TT} {te:TE} {E:Value→Shared→Prop} {RR:Value→Addr→Result→Shared→Prop} {Q:VK}
    (hc:X.calm=true) (I2:Inv X pins σ H2 s2) (T:Turn X.prog X.w X.K tg J fp it tn) (st2:tn 0 s2.heap) (f2:∀ b∈fp,FpOk X pins H2 b)
    (hok:compOk scope X.env.scope=true) (hcap:capOk X scope caps) (hown:own.length=n) (hgo:gOwn n g)
    (cl1:∀ y c,cl.lookup y=some c→X.env.cells.lookup y=some c) (cl2:∀ y,(y,NameKind.free)∈scope.names→∃ c,cl.lookup y=some c)
    (hg:∀ C s₃ H₃,PG (compX X scope own caps cl C s₃ H₃ fp) tg g) (ht:∀ C s₃ H₃,PTs (compX X scope own caps cl C s₃ H₃ fp) ifs tt) (he:∀ C s₃ H₃,PE (compX X scope own caps cl C s₃ H₃ fp) elt te)
    (h:∀ D,H2 D=none→∃ W:Nat→Nat→Hp→Prop,(∃ m,W 0 m (upd H2 D (.lst [])))∧∀ i m H2,W i m H2 →
      (J.stop i H2∧Q (.ref D) H2)∨(J.go i H2∧∀ x H3,J.yld i H2 x H3→g x (capSt n caps σ) H3 fun σ4 H4=>tt σ4 H4 fun b H5 =>
        if b=true then te σ4 H5 fun y H6=>∃ xs,H6 D=some (.lst xs)∧xs.length<sizeLine∧∃ m',m'<m∧W (i+1) m' (upd H6 D (.lst (xs++[y]))) else ∃ m',m'<m∧W (i+1) m' H5))
    (hRR:∀ D C s' H' m,s'.heap.Ns C m→Inv X pins σ H' s'→FpOk X pins H' C→Q (.ref D) H'→RR (.ref D) C (.ok .next) s') :
    wpAny (model X.prog X.w) X.A (newList []) (fun acc s₃=>wpAny (model X.prog X.w) X.A (newFunctionEnv scope X.env.globals cl [] X.env.qual none .none (some X.env)) (fun cenv s₄ =>
      codeAny (model X.prog X.w) X.A (.compStart (.ListComp elt [⟨tg,iter,ifs,0⟩] scope pos) 0 (.ref it) acc { cenv with scope:=relabel scope X.env }) (RR acc cenv.locals) s₄) E s₃) E s2:=by
  refine wpAny_newList (items:=[]) (wpAny_newFunctionEnv (cok_cell hok) (by intro y hy;simp at hy) (fun h₁ hns₁ hsb₁=>?_) (cok_kind hok)) (by show 0≤sizeLine;decide)
  obtain ⟨W,⟨m0,w0⟩,turn⟩:=h s2.heap.objs.size I2.fresh
  have I3:Inv X pins σ (upd H2 s2.heap.objs.size (.lst [])) { s2 with heap:=s2.heap.push { cls:=.type "list",data:=.seq ([]:List Value).toArray } }:=I2.lnew (t':=s2.toks) .nil (by show 0≤sizeLine;decide)
  generalize hs3:({ s2 with heap:=s2.heap.push { cls:=.type "list",data:=.seq ([]:List Value).toArray } }:Shared)=s₃ at *
  have e3:s₃.heap.objs.size=s2.heap.objs.size+1:=by rw [← hs3];exact Heap.size_push _ _
  have k23:∀ b o,s2.heap.get? b=some o→s₃.heap.get? b=some o:=fun b o e=>by rw [← hs3];exact Heap.get?_push_of_some _ e
  have hold:∀ b o,s₃.heap.get? b=some o→h₁.get? b=some o:=fun b o e=>(hsb₁.2 b (Nat.ne_of_lt (Heap.lt_size e))).trans (Heap.get?_push_of_some _ e)
  have lt2:∀ b∈fp,b<s2.heap.objs.size:=fun b hb=>by
    obtain ⟨o,e,_⟩:=T.obj _ _ st2 b hb
    exact Heap.lt_size e
  have f3:∀ b∈fp,FpOk X pins (upd H2 s2.heap.objs.size (.lst [])) b:=fun b hb=>by
    obtain ⟨z,r⟩:=f2 b hb
    exact ⟨by rw [upd_ne (Nat.ne_of_lt (lt2 b hb))];exact z,r⟩
  have tn1:tn 0 h₁:=T.keep _ _ _ st2 fun b hb o e=>hold b o (k23 b o e)
  have I4:=Inv.comp (own:=own) (caps:=caps) (n:=n) (fp:=fp) (cl:=cl) (h4:=h₁) (tk:=s₃.toks+([]:List (Str × Value)).length) I3 hok hcap hown cl1 cl2 f3 (fun b hb=>by rw [e3];exact Nat.lt_succ_of_lt (lt2 b hb)) rfl (by simpa using hns₁) hold
  have hXok:=I4.ok
  have loop:codeAny (model X.prog X.w) X.A (.compLoop (.ListComp elt [⟨tg,iter,ifs,0⟩] scope pos) 0 (.ref it) (.ref s2.heap.objs.size) (compEnvC scope cl s₃.heap.objs.size X.env)) (RR (.ref s2.heap.objs.size) s₃.heap.objs.size) { s₃ with heap:=h₁,toks:=s₃.toks+([]:List (Str × Value)).length }:=by
    generalize hX:compX X scope own caps cl s₃.heap.objs.size s₃ (upd H2 s2.heap.objs.size (.lst [])) fp=X' at I4 hXok
    have eP:X'.prog=X.prog:=by rw [← hX];rfl
    have eW:X'.w=X.w:=by rw [← hX];rfl
    have eK:X'.K=X.K:=by rw [← hX];rfl
    have eA:X'.A=X.A:=by rw [← hX];rfl
    have eC:X'.calm=true:=by rw [← hX];exact hc
    have eE:X'.env=compEnvC scope cl s₃.heap.objs.size X.env:=by rw [← hX];rfl
    have eL:X'.env.locals=s₃.heap.objs.size:=by rw [eE];rfl
    have eX:X'.xe=fun _ _=>False:=by rw [← hX];rfl
    have ePn:X'.pn=[]:=by rw [← hX];rfl
    have eEx:X'.ex=fp:=by rw [← hX];rfl
    have eFs:X'.fs=frs X.stack:=by rw [← hX];rfl
    have hg':=hg s₃.heap.objs.size s₃ (upd H2 s2.heap.objs.size (.lst []))
    have ht':=ht s₃.heap.objs.size s₃ (upd H2 s2.heap.objs.size (.lst []))
    have he':=he s₃.heap.objs.size s₃ (upd H2 s2.heap.objs.size (.lst []))
    have eS0:X'.s₀=s₃:=by rw [← hX];rfl
    have eH0:X'.H₀=upd H2 s2.heap.objs.size (.lst []):=by rw [← hX];rfl
    rw [hX] at hg' ht' he'
    have fpOk:∀ {H':Hp} (b:Addr),b∈fp→H' b=none→FpOk X' [] H' b:=fun b hb hn=>by
      refine ⟨hn,(hXok.exf b (eEx ▸ hb)).1,hXok.exfs b (eEx ▸ hb),.inl (eEx ▸ hb),(hXok.exf b (eEx ▸ hb)).2,fun p hp=>?_⟩
      rw [ePn] at hp
      cases hp
    rw [← eP,← eW,← eA,← eE]
    refine compLoop_any (fun n' s'=>∃ i H',Inv X' [] (capSt n caps σ) H' s'∧tn i s'.heap∧(∀ b∈fp,H' b=none)∧W i n' H') ?_ m0 ⟨0,_,I4,tn1,fun b hb=>(f3 b hb).1,w0⟩
    rintro k s5 ⟨i,H5,I5,t5,fr5,w5⟩
    have weaken:∀ {σ':St} {H':Hp} {s':Shared} {pl:List (Addr × Obj)},Inv X' pl σ' H' s'→σ'.length=(capSt n caps σ).length→σ'.drop n=(capSt n caps σ).drop n→Inv X' [] (capSt n caps σ) H' s':=fun {σ' H' s' pl} I' hl hd=>by
      have I'':Inv X' [] σ' H' s':=I'.pins_of fun p hp=>by cases hp
      refine I''.weak hl.symm fun j v e=>?_
      have hj:=(capSt_get e).1
      have q1:(σ'.drop n)[j-n]?=σ'[j]?:=by rw [List.getElem?_drop];congr 1;omega
      have q2:((capSt n caps σ).drop n)[j-n]?=(capSt n caps σ)[j]?:=by rw [List.getElem?_drop];congr 1;omega
      rw [← q1,hd,q2]
      exact e
    rcases turn i k H5 w5 with ⟨stop,qn⟩ | ⟨go,step⟩
    · have z:=T.done X' eP eW eK eC i [] s5 (capSt n caps σ) H5 (fun _ _=>False) I5 (fun b hb=>fpOk b hb (fr5 b hb)) t5 stop
      rw [← eP,← eW] at z
      refine thn z fun r s6 ⟨hr,I6⟩=>?_
      subst hr
      obtain ⟨m,hm,_⟩:=I6.loc
      have ub:Un (frs X.stack) fp (upd H2 s2.heap.objs.size (.lst [])) H5 s₃.heap s6.heap:=by
        have z:=I6.base
        rw [eFs,eEx,eS0,eH0] at z
        exact z
      have u23:Un (frs X.stack) fp H2 (upd H2 s2.heap.objs.size (.lst [])) s2.heap s₃.heap:=Un.laid k23 (Nat.le_refl _) I2.fresh
      have os6:s6.os=s2.os:=by
        rw [I6.os,eS0,← hs3]
      have hokk:HOk X.prog X.w H5 s6.heap:=by
        have z:=I6.hok
        rw [eP,eW] at z
        exact z
      have Iend:Inv X pins σ H5 s6:=I2.call' os6 (u23.trans ub) hokk I6.bare fun b hb=>⟨(f2 b hb).2.2.2.1,(f2 b hb).2.1,(f2 b hb).2.2.2.2.1,(f2 b hb).2.2.2.2.2⟩
      have hCn:H5 s₃.heap.objs.size=none:=by
        have z:=I6.free
        rw [eL] at z
        exact z
      rw [eL] at hm
      exact hRR _ _ s6 H5 m hm Iend (I3.fpOk (Nat.le_refl _) hCn) qn
    · have z:=T.item X' eP eW eK eC i [] s5 (capSt n caps σ) H5 (fun _ _=>False) I5 (fun b hb=>fpOk b hb (fr5 b hb)) t5 go
      rw [← eP,← eW] at z
      refine thn z fun r s6 ⟨u,hr,h6⟩=>?_
      subst hr
      refine thn h6 fun _ s7 ⟨x,H7,I7,r7,y7,t7,fr7⟩=>?_
      have I7':=I7.pinned (fun b hb=>fpOk b hb (fr7 b hb)) (T.obj _ _ t7)
      have pinD:∀ {σ':St} {H':Hp} {s':Shared},Inv X' ([]++pinsAt fp s7.heap) σ' H' s'→tn (i+1) s'.heap∧∀ b∈fp,H' b=none:=fun {σ' H' s'} I'=>by
        have pin:∀ b∈fp,∀ o,s7.heap.get? b=some o→s'.heap.get? b=some o∧H' b=none:=fun b hb o e=>by
          have z:=I'.pin (b,o) (List.mem_append_right _ (List.mem_append_right _ (mem_pinsAt hb e)))
          exact ⟨z.1,z.2.1⟩
        refine ⟨T.keep _ _ _ t7 fun b hb o e=>(pin b hb o e).1,fun b hb=>?_⟩
        obtain ⟨o,e,_⟩:=T.obj _ _ t7 b hb
        exact (pin b hb o e).2
      have xf:∀ {α:Type} {t:Sem α} {Q':α→Shared→Prop} {s':Shared},wpAny (model X'.prog X'.w) X'.A t Q' X'.xe s'→wpAny (model X'.prog X'.w) X'.A t Q' (fun _ _=>False) s':=fun z=>by rw [eX] at z;exact z
      refine thn (xf (hg' _ s7 (capSt n caps σ) H7 x u _ I7' r7 (hgo _ _ _ _ (step x H7 y7)))) fun _ s8 ⟨σ8,H8,I8,⟨l8,d8⟩,q8⟩=>?_
      refine thn (xf (ht' _ s8 σ8 H8 _ I8 q8)) fun b s9 ⟨H9,I9,q9⟩=>?_
      cases b with
      | false =>
        rw [if_neg Bool.false_ne_true]
        obtain ⟨m',hm,w9⟩:=(show ∃ m',m'<k∧W (i+1) m' H9 by simpa using q9)
        obtain ⟨t9,fr9⟩:=pinD I9
        exact ⟨m',hm,i+1,H9,weaken I9 l8 d8,t9,fr9,w9⟩
      | true =>
        rw [if_pos rfl]
        rw [if_pos rfl] at q9
        refine thn (xf (he' _ s9 σ8 H9 _ I9 q9)) fun v s10 ⟨y,H10,I10,r10,xs,hD,hlen,m',hm,w10⟩=>?_
        refine thn (xf (mt_append _ s10 σ8 H10 (.ref s2.heap.objs.size) [y] (.ref s2.heap.objs.size) [v] (fun _ H'=>H'=upd H10 s2.heap.objs.size (.lst (xs++[y]))) I10 rfl (.cons r10 .nil) ⟨_,xs,y,rfl,rfl,hD,hlen,rfl⟩)) fun _ s11 ⟨_,H11,I11,_,e11⟩=>?_
        subst e11
        obtain ⟨t11,fr11⟩:=pinD I11
        exact ⟨m',hm,i+1,_,weaken I11 l8 d8,t11,fr11,w10⟩
  exact codeAny_compStart_list loop (T.self _ 0 _ _ _ tn1 loop)
theorem Inv.closure (I:Inv X pins σ H2 s2)(hok:compOk scope X.env.scope=true):∃ cl,closureFor scope X.env=pure cl∧(∀ y c,cl.lookup y=some c→X.env.cells.lookup y=some c)∧∀ y,(y,NameKind.free)∈scope.names→∃ c,cl.lookup y=some c :=
  closure_of fun z hz e=>I.ok.has z.1 (cok_free hok z hz e)
end
section
variable {X:Cx}{tg iter elt:Expr}{ifs:List Expr}{scope:Scope}{pos:Pos}{wi:TI}{g:TG}{tt:TT}{te:TE}{n:Nat}
theorem pe_comp (own:List Str)(caps:List Nat)(hc:X.calm=true)(hi:PI X tg iter wi)(hg:∀ cl C s₃ H₃ fp,PG (compX X scope own caps cl C s₃ H₃ fp) tg g)(ht:∀ cl C s₃ H₃ fp,PTs (compX X scope own caps cl C s₃ H₃ fp) ifs tt)
    (he:∀ cl C s₃ H₃ fp,PE (compX X scope own caps cl C s₃ H₃ fp) elt te) (hcap:capOk X scope caps) (hgo:gOwn own.length g) (hok:compOk scope X.env.scope=true:=by rfl)
    (hs:∀ x,foldedSetIterable iter X.env x=pure x:=by intro _;rfl):PE X (.ListComp elt [⟨tg,iter,ifs,0⟩] scope pos) (tComp own.length caps wi g tt te):=by
  intro pins s σ H Q I h
  obtain ⟨cl,hcl,cl1,cl2⟩:=I.closure hok
  rw [eval_ListComp]
  refine wpAny_comprehension_free (use:=none) rfl hs hcl (cok_kind hok) (cok_loc hok) (thn (hi pins s σ H _ I h) fun v s1 h1=>thn h1 fun itv s2 h2=>?_)
  obtain ⟨it,fp,tn,J,H2,e,I2,T,st2,f2,h3⟩:=h2
  subst e
  refine comp_core (RR:=fun acc C=>compPost (model X.prog X.w) X.A X.xe none (EP X pins σ Q) acc C) (own:=own) (caps:=caps) (n:=own.length) (Q:=Q) hc I2 T st2 f2 hok hcap rfl hgo cl1 cl2 (fun C s₃ H₃=>hg cl C s₃ H₃ fp) (fun C s₃ H₃=>ht cl C s₃ H₃ fp) (fun C s₃ H₃=>he cl C s₃ H₃ fp) h3 ?_
  intro D C s' H' m hm I' hC q
  refine ⟨m,hm,fun h' hsb=>⟨.ref D,H',?_,rfl,q⟩⟩
  exact I'.turned (it:=C) (t':=s'.toks) (fun b o hb e=>(hsb.2 b hb).trans e) hC.1 hC.2.1 hC.2.2.2.1 hC.2.2.2.2.1 hC.2.2.2.2.2
theorem ps_setcomp {i:Nat}{x:Str}{pos' spos:Pos}(own:List Str)(caps:List Nat)(hN:X.N.Nodup)(hx0:X.N[i]?=some x)(hx:Loc X.env.scope x)(hc:X.calm=true)(hi:PI X tg iter wi)(hg:∀ cl C s₃ H₃ fp,PG (compX X scope own caps cl C s₃ H₃ fp) tg g)(ht:∀ cl C s₃ H₃ fp,PTs (compX X scope own caps cl C s₃ H₃ fp) ifs tt)
    (he:∀ cl C s₃ H₃ fp,PE (compX X scope own caps cl C s₃ H₃ fp) elt te) (hcap:capOk X scope caps) (hgo:gOwn own.length g) (hok:compOk scope X.env.scope=true:=by rfl)
    (hs:∀ x,foldedSetIterable iter X.env x=pure x:=by intro _;rfl) (hsw:swapsWith (.ListComp elt [⟨tg,iter,ifs,0⟩] scope pos) (some (.Name x pos')) spos.line X.env=pure true:=by rfl)
    (hf:X.fn x=true∨X.env.scope.names.lookup x=some .local:=by first | exact .inl rfl | exact .inr rfl | assumption):PS X (.Assign [.Name x pos'] (.ListComp elt [⟨tg,iter,ifs,0⟩] scope pos) spos) (tAsg (tComp own.length caps wi g tt te) (gName i)):=by
  intro pins s σ H D I h
  obtain ⟨cl,hcl,cl1,cl2⟩:=I.closure hok
  rw [exec_Assign_Name_used _ _ _ _ hsw]
  refine wpAny_bind (wpAny_standAt (wpAny_bind ?_))
  show wpAny _ _ (do let _ ← comprehension (.ListComp elt [⟨tg,iter,ifs,0⟩] scope pos) scope X.env _ (newList []) false (eval iter X.env) (some (assign (.Name x pos') X.env))) _ _ s
  refine wpAny_bind (wpAny_mono (wpAny_comprehension_free (use:=some (assign (.Name x pos') X.env)) (Q:=fun _ s'=>SP X pins D .next s') rfl hs hcl (cok_kind hok) (cok_loc hok)
    (thn (hi pins s σ H _ I h) fun v s1 h1=>thn h1 fun itv s2 h2=>?_)) (fun _ s' hq=>wpAny_pure (wpAny_pure hq)) fun _ _ e=>e)
  obtain ⟨it,fp,tn,J,H2,e,I2,T,st2,f2,h3⟩:=h2
  subst e
  refine comp_core (RR:=fun acc C=>compPost (model X.prog X.w) X.A X.xe (some (assign (.Name x pos') X.env)) (fun _ s'=>SP X pins D .next s') acc C) (own:=own) (caps:=caps) (n:=own.length) (Q:=fun x H1=>gName i x σ H1 D.nx) hc I2 T st2 f2 hok hcap rfl hgo cl1 cl2 (fun C s₃ H₃=>hg cl C s₃ H₃ fp) (fun C s₃ H₃=>ht cl C s₃ H₃ fp) (fun C s₃ H₃=>he cl C s₃ H₃ fp) h3 ?_
  intro A' C s' H' m hm I' hC q
  obtain ⟨o,es,ep,ho,hd,r⟩:=id hm
  have I'':Inv X (pins++[(C,o)]) σ H' s':=I'.pins_of fun p hp=>by
    rcases List.mem_append.mp hp with z | z
    · exact I'.pin p (List.mem_append_right _ z)
    · have e:p=(C,o):=by simpa using z
      subst e
      exact ⟨ho,hC.1,hC.2.1,hC.2.2.1,fun v e=>by rw [hd] at e;cases e⟩
  refine thn (pg_name hN hx0 hx hf _ s' σ H' (.ref A') (.ref A') _ I'' rfl q) fun _ s2' ⟨σ2,H3',I3,q3⟩=>?_
  have p3:=I3.pin (C,o) (List.mem_append_right _ (List.mem_append_right _ (by simp)))
  refine ⟨m,⟨o,es,ep,p3.1,hd,r⟩,fun h' hsb=>⟨σ2,H3',?_,q3⟩⟩
  exact (I3.unpinned (pl:=[(C,o)])).turned (it:=C) (t':=s2'.toks) (fun b o hb e=>(hsb.2 b hb).trans e) p3.2.1 p3.2.2.1 hC.2.2.2.1 hC.2.2.2.2.1 hC.2.2.2.2.2
end
end L2
namespace L2
open PySem PySem.Spec PyProof.Rows
theorem boot_isi:bootBuiltins "isinstance"=some (.builtin "isinstance"):=by decide +kernel
theorem boot_minB:bootBuiltins "min"=some (.builtin "min"):=by decide +kernel
theorem boot_maxB:bootBuiltins "max"=some (.builtin "max"):=by decide +kernel
section
variable {X:Cx}
def vOf:V→Option Value
  | .ty n=>some (.type n)
  | .ref a=>some (.ref a)
  | _=>none
def rIsi (K:PySem.W.Frag):List V→Hp→VK→Prop:=fun xs H Q=>∃ x y c t b,xs=[x,y]∧vOf y=some c∧TyOf K H x t∧PySem.W.kitOne K t c=some b∧Q (.bl b) H
theorem call_isi:CallR X (.builtin "isinstance") (rIsi X.K):=by
  intro pins s σ H xs us Q I r h
  obtain ⟨x,y,c,t,b,rfl,hy,ht,hk,q⟩:=h
  obtain ⟨u,v,rfl,ru,rv⟩:=r.two
  have ev:v=c:=by
    cases y with
    | ty n=>cases (show v=Value.type n from rv);exact Option.some.inj hy
    | ref a=>cases (show v=Value.ref a from rv);exact Option.some.inj hy
    | _=>cases hy
  subst ev
  exact isinst_ok I ru ht hk fun tk=>⟨.bl b,H,I.tok _,rfl,q⟩
def CShl (i j:Int):Prop:=0≤j∧j≤1000000∧i.natAbs<2^1000
end
def LoopJ (J:It)(g:TG)(tb:TS)(D:Ends)(σ:St)(H:Hp):Prop:=∃ W:Nat→Nat→St→Hp→Prop,(∃ m,W 0 m σ H)∧∀ i m σ H,W i m σ H →
  (J.stop i H∧D.nx σ H)∨(J.go i H∧∃ N:St→Hp→Prop,(∀ σ' H',N σ' H'→∃ m',m'<m∧W (i+1) m' σ' H')∧∀ x H',J.yld i H x H'→g x σ H' fun σ2 H2=>tb { D with nx:=N,ct:=N,bk:=D.nx } σ2 H2)
theorem tFor_ap {wi:TI}{g:TG}{tb:TS}{D:Ends}{σ:St}{H:Hp}:tFor wi g tb D σ H=wi σ H fun J H1=>LoopJ J g tb D σ H1:=rfl
theorem loopR {lo:Int}{n:Nat}{g:TG}{tb:TS}{D:Ends}{σ:St}{H:Hp}(Pv:Nat→St→Hp→Prop)(h0:Pv 0 σ H)
    (hs:∀ i σ H,i<n→Pv i σ H→g (.int (lo+i)) σ H fun σ2 H2=>tb { D with nx:=Pv (i+1),ct:=Pv (i+1),bk:=D.nx } σ2 H2) (hd:∀ σ H,Pv n σ H→D.nx σ H):LoopJ (Itr lo n) g tb D σ H:=for_range Pv h0 hs hd
theorem loopL {K:PySem.W.Frag}{a:Addr}{xs:List V}{g:TG}{tb:TS}{D:Ends}{σ:St}{H:Hp}(Pv:Nat→St→Hp→Prop)(h0:Pv 0 σ H)(hl:∀ i σ H,i≤xs.length→Pv i σ H→SqL K H a xs)
    (hs:∀ i x σ H,xs[i]?=some x→Pv i σ H→g x σ H fun σ2 H2=>tb { D with nx:=Pv (i+1),ct:=Pv (i+1),bk:=D.nx } σ2 H2) (hd:∀ σ H,Pv xs.length σ H→D.nx σ H):LoopJ (Itl K a) g tb D σ H:=for_list Pv h0 hl hs hd
def CompJ (J:It) (n:Nat) (caps:List Nat) (g:TG) (tt:TT) (te:TE) (σ:St) (H1:Hp) (Q:VK):Prop:=∀ D,H1 D=none→∃ W:Nat→Nat→Hp→Prop,(∃ m,W 0 m (upd H1 D (.lst [])))∧∀ i m H2,W i m H2 →
  (J.stop i H2∧Q (.ref D) H2)∨(J.go i H2∧∀ x H3,J.yld i H2 x H3→g x (capSt n caps σ) H3 fun σ4 H4=>tt σ4 H4 fun b H5 =>
    if b=true then te σ4 H5 fun y H6=>∃ xs,H6 D=some (.lst xs)∧xs.length<sizeLine∧∃ m',m'<m∧W (i+1) m' (upd H6 D (.lst (xs++[y]))) else ∃ m',m'<m∧W (i+1) m' H5)
theorem tComp_ap {n:Nat}{caps:List Nat}{wi:TI}{g:TG}{tt:TT}{te:TE}{σ:St}{H:Hp}{Q:VK}:tComp n caps wi g tt te σ H Q=wi σ H fun J H1=>CompJ J n caps g tt te σ H1 Q:=rfl
theorem range_filter_map {α β:Type}(p:α→Bool)(f:α→β):∀ (xs:List α) (P:Nat→Bool) (F:Nat→β),(∀ i x,xs[i]?=some x→P i=p x∧F i=f x)→((List.range xs.length).filter P).map F=(xs.filter p).map f
  | [],_,_,_=>rfl
  | x::r,P,F,h=>by
    have e:List.range (x::r).length=0::(List.range r.length).map Nat.succ:=by rw [List.length_cons,List.range_succ_eq_map]
    have ih:=range_filter_map p f r (P ∘ Nat.succ) (F ∘ Nat.succ) fun i y hy=>h (i+1) y (by simpa using hy)
    obtain ⟨h1,h2⟩:=h 0 x rfl
    rw [e,List.filter_cons,List.filter_cons,h1,List.filter_map]
    split
    · rw [List.map_cons,List.map_cons,h2,List.map_map,ih]
    · rw [List.map_map,ih]
section
variable {D:Ends}{σ:St}{H:Hp}{Q:VK}{QT:Bool→Hp→Prop}{QA:List V→Hp→Prop}{ta tb tc:TE}{t u:TS}{tA tB':TT}{te:TE}{tl:TA}{r r':R2}
theorem tSeq_ap:tSeq t u D σ H=t { D with nx:=u D } σ H:=rfl
theorem tNext_ap:tNext D σ H=D.nx σ H:=rfl
theorem tAsg_ap {g:TG}:tAsg te g D σ H=te σ H fun x H1=>g x σ H1 D.nx:=rfl
theorem gName_ap {i:Nat}{v:V}{R:St→Hp→Prop}:gName i v σ H R=R (σ.set i (some v)) H:=rfl
theorem tVar_ap {i:Nat}:tVar i σ H Q=∃ v,σ[i]?=some (some v)∧Q v H:=rfl
theorem tC_ap {v:V}:tC v σ H Q=Q v H:=rfl
theorem tOp_ap:tOp r ta tb σ H Q=ta σ H fun x H1=>tb σ H1 fun y H2=>r x y H2 Q:=rfl
theorem tUn_ap {r:V→Hp→VK→Prop}:tUn r ta σ H Q=ta σ H fun x H1=>r x H1 Q:=rfl
theorem rI_ap {C:Int→Int→Prop}{g:Int→Int→V}{x y:V}:rI C g x y H Q=∃ i j,x=.int i∧y=.int j∧C i j∧Q (g i j) H:=rfl
theorem rI0_ap {g:Int→Int→V}{x y:V}:rI0 g x y H Q=∃ i j,x=.int i∧y=.int j∧Q (g i j) H:=rfl
theorem rU_ap {g:Int→V}{x:V}:rU g x H Q=∃ i,x=.int i∧Q (g i) H:=rfl
theorem rEq_ap {x y:V}:rEq x y H Q=(scal x y=true∧Q (.bl (decide (x=y))) H):=rfl
theorem rNe_ap {x y:V}:rNe x y H Q=(scal x y=true∧Q (.bl (!decide (x=y))) H):=rfl
theorem scal_ii {i j:Int}:scal (.int i) (.int j)=true:=rfl
theorem scal_bb {i j:Bool}:scal (.bl i) (.bl j)=true:=rfl
theorem scal_ss {i j:Str}:scal (.str i) (.str j)=true:=rfl
theorem tRet_ap:tRet te D σ H=te σ H D.rt:=rfl
theorem tDrop_ap:tDrop te D σ H=te σ H fun _ H1=>D.nx σ H1:=rfl
theorem tIfS_ap:tIfS tA t u D σ H=tA σ H fun b H1=>if b=true then t D σ H1 else u D σ H1:=rfl
theorem tTest_ap:tTest te σ H QT=te σ H fun x H'=>∃ k,x=.bl k∧QT k H':=rfl
theorem tB_ap:tB te σ H QT=te σ H fun x H1=>∃ c,x=.bl c∧QT c H1:=rfl
theorem tAnd_ap:tAnd tA tB' σ H QT=tA σ H fun c H1=>if c=true then tB' σ H1 QT else QT false H1:=rfl
theorem tOr_ap:tOr tA tB' σ H QT=tA σ H fun c H1=>if c=true then QT true H1 else tB' σ H1 QT:=rfl
theorem tNot_ap:tNot tA σ H QT=tA σ H fun c H1=>QT (!c) H1:=rfl
theorem tNotV_ap:tNotV ta σ H Q=ta σ H fun x H1=>∃ c,x=.bl c∧Q (.bl (!c)) H1:=rfl
theorem tCall_ap {sp:Sp}{dvs:List V}{E:XK}:tCall sp dvs E tl σ H Q=tl σ H fun vs H1=>sp (vs++dvs) H1 Q E:=rfl
theorem tNil_ap:tNil σ H QA=QA [] H:=rfl
theorem tCons_ap:tCons ta tl σ H QA=ta σ H fun x H1=>tl σ H1 fun xs H2=>QA (x::xs) H2:=rfl
theorem tTup_ap:tTup tl σ H Q=tl σ H fun xs H1=>xs.length≤sizeLine∧∀ p,H1 p=none→Q (.ref p) (upd H1 p (.tup xs)):=rfl
theorem tLst_ap:tLst tl σ H Q=tl σ H fun xs H1=>xs.length≤sizeLine∧∀ p,H1 p=none→Q (.ref p) (upd H1 p (.lst xs)):=rfl
theorem tCB_ap {r:List V→Hp→VK→Prop}:tCB r tl σ H Q=tl σ H fun vs H1=>r vs H1 Q:=rfl
theorem tBM_ap {K:PySem.W.Frag}{T:String}{r:V→List V→Hp→VK→Prop}:tBM K T r te tl σ H Q=te σ H fun x H1=>tyV K T x H1∧tl σ H1 fun xs H2=>r x xs H2 Q:=rfl
theorem tBM0_ap {K:PySem.W.Frag}{T:String}{r:V→List V→Hp→VK→Prop}:tBM0 K T r te σ H Q=te σ H fun x H1=>tyV K T x H1∧r x [] H1 Q:=rfl
theorem tyV_int {K:PySem.W.Frag}{i:Int}:tyV K "int" (.int i) H:=rfl
theorem tyV_list {K:PySem.W.Frag}{p:Addr}:tyV K "list" (.ref p) H↔∃ xs,SqL K H p xs:=by
  unfold tyV
  simp
theorem rIxL_ap {K:PySem.W.Frag}{x y:V}:rIxL K x y H Q=∃ p xs i v,x=.ref p∧y=.int i∧SqL K H p xs∧atI xs i=some v∧Q v H:=rfl
theorem rIxT_ap {K:PySem.W.Frag}{x y:V}:rIxT K x y H Q=∃ p xs i v,x=.ref p∧y=.int i∧SqT K H p xs∧atI xs i=some v∧Q v H:=rfl
theorem rIxS_ap {x y:V}:rIxS x y H Q=∃ z i c,x=.str z∧y=.int i∧z.length≤sizeLine∧atI z.cps.toList i=some c∧Q (.str ⟨#[c]⟩) H:=rfl
theorem rAppend_ap {x:V}{vs:List V}:rAppend x vs H Q=∃ l xs y,x=.ref l∧vs=[y]∧H l=some (.lst xs)∧xs.length<sizeLine∧Q .non (upd H l (.lst (xs++[y]))):=rfl
theorem rCat_ap {x y:V}:rCat x y H Q=∃ l b xs zs,x=.ref l∧y=.ref b∧H l=some (.lst xs)∧H b=some (.lst zs)∧xs.length+zs.length≤sizeLine∧∀ p,H p=none→Q (.ref p) (upd H p (.lst (xs++zs))):=rfl
theorem iRng1_ap {R:It→Hp→Prop}:iRng1 tl σ H R=tl σ H fun vs H1=>∃ j:Int,vs=[.int j]∧-(2^62)≤j∧j<2^62∧R (Itr 0 j.toNat) H1:=rfl
theorem iList_ap {K:PySem.W.Frag}{R:It→Hp→Prop}:iList K te σ H R=te σ H fun x H1=>∃ a,x=.ref a∧(∃ xs,SqL K H1 a xs)∧R (Itl K a) H1:=rfl
theorem tNoTest_ap:tNoTest σ H QT=QT true H:=rfl
theorem rIsi_blb {K:PySem.W.Frag}{k:Bool}:rIsi K [.bl k,.ty "bool"] H Q↔Q (.bl true) H :=
  ⟨fun ⟨x,y,c,t,b,e,hy,ht,hk,q⟩=>by
    cases e
    cases hy
    cases ht
    cases hk
    exact q,fun q=>⟨_,_,_,_,true,rfl,rfl,.bl k,rfl,q⟩⟩
end
end L2
namespace L2
open PySem PySem.Spec PyProof.Rows
def FnAt (P:Program)(w:World)(K:PySem.W.Frag)(mg:Str→Option Value)(base:Heap)(x:Str)(ps:List Str)(k:Nat)(sp:Sp):Prop :=
  ∃ f fd,FnOk P w K mg base CX0 k f fd ps sp∧mg x=some (.ref f)∧PySem.W.keepIn K (.ref f)=true∧Binds K fd ps []
def DefAt (K:PySem.W.Frag)(mg:Str→Option Value)(x:Str)(st:Stmt)(ps:List Str):Prop:=∃ f fd,Fun K x x st f fd∧mg x=some (.ref f)∧Binds K fd ps []
section
variable {P:Program}{w:World}{K:PySem.W.Frag}{mg:Str→Option Value}{base:Heap}
theorem FnAt.of {x:Str}{st:Stmt}{N ps:List Str}{k:Nat}{sp:Sp}(d:DefAt K mg x st ps)(S:FnScope N ps (defScope st))(len:∀ vs H Q E,sp vs H Q E→vs.length=ps.length)
    (hbody:∀ (f:Addr) (cdv:Value) (A:Around) (outer:List Env) (s:Shared) (H:Hp) (vs:List V) (Q:VK) (E:XK),Room k (A.deeper (envOfC x (defScope st) s.heap.objs.size f cdv))→sp vs H Q E →
      ∃ t,PSs (cxOf CX0 P w K mg base N x (defScope st) f cdv A outer s H E).nox (defBody st) t∧t { nx:=fun _ H'=>Q .non H',rt:=Q } (start N vs) H):FnAt P w K mg base x ps (k+1) sp:=by
  obtain ⟨f,fd,F,m,b⟩:=d
  exact ⟨f,fd,F.ok S len (hbody f),m,F.kp,b⟩
theorem defAt_mk {h:Heap}{x:Str}{st:Stmt}{ps:List Str}{f:Addr}{oc:Value}{od an:Option Addr}{osl:Array (Option Value)}{kV doc pm cdv ct:Value}(X:K.In h)(G:h.Ns mainGlobals mg)(a:PySem.W.nsIn K mainGlobals x=some (some (.ref f)))
    (l:K.lookup f=some ⟨oc,od,.func (PySem.W.fnOf x x (defArgs st) (defBody st) (defScope st) .none kV doc pm an cdv ct),osl⟩) (c:PySem.W.codeIn K cdv x=true) (k:PySem.W.keepIn K (.ref f)=true)
    (hb:∀ (kV doc pm:Value) (an:Option Addr) (cdv ct:Value) (us:List Value),us.length=ps.length→bindArgs (PySem.W.fnOf x x (defArgs st) (defBody st) (defScope st) .none kV doc pm an cdv ct) ⟨us,[]⟩=pure (ps.zip us)):DefAt K mg x st ps :=
  ⟨f,_,fun_mk l c k,PySem.W.mg_of X G a,(fun_mk l c k).binds hb⟩
end
section
variable {X:Cx}{x:Str}{ps:List Str}{k:Nat}{sp:Sp}{e:Expr}{es:List Expr}{t:TA}{p pos:Pos}
theorem pe_callF (F:FnAt X.prog X.w X.K X.mg X.base x ps k sp)(hr:Room k X.A)(hg:Gl X x)(ha:PA X (e::es) t)
    (he:starEach (e::es) X.env=(false,eval e X.env)::starEach es X.env:=by rfl) (hdb:(x==("__debug__":Str))=false:=by decide) (hpl:(backTo pos (starEach es X.env)).any (·.1)=false:=by rfl):PE X (.Call (.Name x p) (e::es) [] pos) (tCall sp [] E0 t):=by
  obtain ⟨f,fd,G,m,kp,b⟩:=F
  exact pe_call G hr hg m kp b .nil pass0 ha hdb he hpl
end
section
variable {X:Cx}
def rLen (K:PySem.W.Frag):List V→Hp→VK→Prop:=fun xs H Q=>∃ p ys,xs=[.ref p]∧(SqL K H p ys∨SqT K H p ys)∧Q (.int ys.length) H
def rListOf (K:PySem.W.Frag):List V→Hp→VK→Prop:=fun xs H Q=>∃ p ys,xs=[.ref p]∧(SqL K H p ys∨SqT K H p ys)∧∀ l,H l=none→Q (.ref l) (upd H l (.lst ys))
theorem ix_listK (K:PySem.W.Frag)(h:X.K=K:=by rfl):IxR X (rIxL K):=h ▸ ix_list
theorem ix_tupK (K:PySem.W.Frag)(h:X.K=K:=by rfl):IxR X (rIxT K):=h ▸ ix_tup
theorem call_isiK (K:PySem.W.Frag)(h:X.K=K:=by rfl):CallR X (.builtin "isinstance") (rIsi K):=h ▸ call_isi
theorem call_lenK (K:PySem.W.Frag)(h:X.K=K:=by rfl):CallR X (.builtin "len") (rLen K):=by subst h;exact call_len_seq
theorem call_listK (K:PySem.W.Frag)(h:X.K=K:=by rfl):CallR X (.type "list") (rListOf K):=by subst h;exact call_list_of
theorem op_inK (K:PySem.W.Frag)(h:X.K=K:=by rfl):OpR X (compareOp .In) (rIn K false):=h ▸ op_in_seq
theorem rLen_ap {K:PySem.W.Frag}{xs:List V}{H:Hp}{Q:VK}:rLen K xs H Q=∃ p ys,xs=[.ref p]∧(SqL K H p ys∨SqT K H p ys)∧Q (.int ys.length) H:=rfl
theorem rListOf_ap {K:PySem.W.Frag}{xs:List V}{H:Hp}{Q:VK}:rListOf K xs H Q=∃ p ys,xs=[.ref p]∧(SqL K H p ys∨SqT K H p ys)∧∀ l,H l=none→Q (.ref l) (upd H l (.lst ys)):=rfl
theorem rIn_ap {K:PySem.W.Frag}{neg:Bool}{x y:V}{H:Hp}{Q:VK}:rIn K neg x y H Q=∃ p xs,y=.ref p∧(SqL K H p xs∨SqT K H p xs)∧flatV x=true∧xs.all flatV=true∧Q (.bl (if neg then !inV x xs else inV x xs)) H:=rfl
end
section
variable {X:Cx}{tg l o e:Expr}{es:List Expr}{tl to:TE}{t:TA}{name:Str}{apos cpos:Pos}{T id:String}{r:V→List V→Hp→VK→Prop}
theorem pi_listK (K:PySem.W.Frag)(hl:PE X l tl)(h:X.K=K:=by rfl):PI X tg l (iList K tl):=h ▸ pi_list hl
theorem pe_bmK (K:PySem.W.Frag)(pa:PlainAttrs T)(slot:Slot T name id)(hty:typeOf (.builtin id)=pure (.type "method_descriptor"))(hm:MtR X id r)(ho:PE X o to)(ha:PA X (e::es) t)(hK:X.K=K:=by rfl)
    (hbase:attributeBase o name X.env (eval o X.env)=eval o X.env:=by rfl)
    (hfew:((backTo cpos (starEach (e::es) X.env)).all (fun x=>!x.1)&&(backToKw cpos (keywordEach [] X.env)).all (fun x=>x.1.isSome)
      && decide ((e::es).length+([]:List Keyword).length+(if ([]:List Keyword).isEmpty then 0 else 1)<30))=true:=by rfl)
    (hline:(apos.endLine==cpos.line)=true:=by rfl) (hs:starEach (e::es) X.env=(false,eval e X.env)::starEach es X.env:=by rfl) (hplain:(backTo cpos (starEach es X.env)).any (·.1)=false:=by rfl) :
    PE X (.Call (.Attribute o name apos) (e::es) [] cpos) (tBM K T r to t):=hK ▸ pe_bm pa slot hty hm ho ha hbase hfew hline hs hplain
theorem pe_bm0K (K:PySem.W.Frag)(pa:PlainAttrs T)(slot:Slot T name id)(hty:typeOf (.builtin id)=pure (.type "method_descriptor"))(hm:MtR X id r)(ho:PE X o to)(hK:X.K=K:=by rfl)
    (hbase:attributeBase o name X.env (eval o X.env)=eval o X.env:=by rfl) (hline:(apos.endLine==cpos.line)=true:=by rfl):PE X (.Call (.Attribute o name apos) [] [] cpos) (tBM0 K T r to):=hK ▸ pe_bm0 pa slot hty hm ho hbase hline
end
section
variable {X:Cx}{st:Stmt}{rest:List Stmt}{t u:TS}
end
theorem rep0:List.replicate 0 (none:Option V)=[]:=rfl
theorem rep1:List.replicate 1 (none:Option V)=[none]:=rfl
theorem rep2:List.replicate 2 (none:Option V)=[none,none]:=rfl
theorem rep3:List.replicate 3 (none:Option V)=[none,none,none]:=rfl
theorem rep4:List.replicate 4 (none:Option V)=[none,none,none,none]:=rfl
theorem rep5:List.replicate 5 (none:Option V)=[none,none,none,none,none]:=rfl
theorem rep6:List.replicate 6 (none:Option V)=[none,none,none,none,none,none]:=rfl
theorem rep7:List.replicate 7 (none:Option V)=[none,none,none,none,none,none,none]:=rfl
theorem rep8:List.replicate 8 (none:Option V)=[none,none,none,none,none,none,none,none]:=rfl
theorem rep9:List.replicate 9 (none:Option V)=[none,none,none,none,none,none,none,none,none]:=rfl
theorem rep10:List.replicate 10 (none:Option V)=[none,none,none,none,none,none,none,none,none,none]:=rfl
theorem rep11:List.replicate 11 (none:Option V)=[none,none,none,none,none,none,none,none,none,none,none]:=rfl
end L2
namespace L2
open PySem PySem.Spec PyProof.Rows
mutual
inductive RdD (K:PySem.W.Frag) (H:Hp):V→PyData→Prop
  | non:RdD K H .non .none
  | bl (b:Bool):RdD K H (.bl b) (.bool b)
  | int (i:Int):RdD K H (.int i) (.int i)
  | str (x:Str):RdD K H (.str x) (.str x)
  | lst {a:Addr} {xs:List V} {ds:List PyData} (h:SqL K H a xs) (r:RdDs K H xs ds):RdD K H (.ref a) (.list ds)
  | tup {a:Addr} {xs:List V} {ds:List PyData} (h:SqT K H a xs) (r:RdDs K H xs ds):RdD K H (.ref a) (.tuple ds)
inductive RdDs (K:PySem.W.Frag) (H:Hp):List V→List PyData→Prop
  | nil:RdDs K H [] []
  | cons {x:V} {d:PyData} {xs:List V} {ds:List PyData} (h:RdD K H x d) (r:RdDs K H xs ds):RdDs K H (x::xs) (d::ds)
end
section
variable {X:Cx}{pins:List (Addr × Obj)}{σ:St}{H:Hp}{s:Shared}
mutual
theorem Inv.rd (I:Inv X pins σ H s):∀ {x:V} {d:PyData},RdD X.K H x d→∀ {u:Value},RelV x u→∃ as,Reads s.heap u d as
  | _,_,.non,_,r=>by cases r;exact ⟨_,.none⟩
  | _,_,.bl b,_,r=>by cases r;exact ⟨_,.bool b⟩
  | _,_,.int i,_,r=>by obtain ⟨t,rfl⟩:=r;exact ⟨_,.int i t⟩
  | _,_,.str x,_,r=>by obtain ⟨t,rfl⟩:=r;exact ⟨_,.str x t⟩
  | _,_,.lst h rs,_,r=>by
    cases r
    obtain ⟨its,rv,pl,_⟩:=I.list h
    obtain ⟨as,q⟩:=Inv.rds I rs rv
    obtain ⟨o,ho,hc,n,hd⟩:=pl.isList
    exact ⟨_,.list ho hc hd (by simpa using q)⟩
  | _,_,.tup h rs,_,r=>by
    cases r
    obtain ⟨its,rv,pl,_⟩:=I.tuple h
    obtain ⟨as,q⟩:=Inv.rds I rs rv
    obtain ⟨o,ho,hc,n,hd⟩:=pl
    exact ⟨_,.tuple ho hc hd (by simpa using q)⟩
theorem Inv.rds (I:Inv X pins σ H s):∀ {xs:List V} {ds:List PyData},RdDs X.K H xs ds→∀ {us:List Value},Vals xs us→∃ as,ReadsAll s.heap us ds as
  | _,_,.nil,_,r=>by cases r;exact ⟨_,.nil⟩
  | _,_,.cons h t,_,r=>by
    cases r with
    | cons r1 r2 =>
      obtain ⟨as,q⟩:=Inv.rd I h r1
      obtain ⟨bs,p⟩:=Inv.rds I t r2
      exact ⟨_,.cons q p⟩
end
end
section
variable {X:Cx}
def rEqD (K:PySem.W.Frag):R2:=fun x y H Q=>∃ d e,RdD K H x d∧RdD K H y e∧SeqAt.shaped d=true∧SeqAt.shaped e=true∧SeqAt.noMix d e=true∧Q (.bl (PySem.Spec.same d e)) H
def rNeD (K:PySem.W.Frag):R2:=fun x y H Q=>∃ d e,RdD K H x d∧RdD K H y e∧SeqAt.shaped d=true∧SeqAt.shaped e=true∧SeqAt.noMix d e=true∧Q (.bl (!PySem.Spec.same d e)) H
theorem op_eqD (K:PySem.W.Frag)(hu:X.A.units+64<cLine)(h:X.K=K:=by rfl):OpR X (compareOp .Eq) (rEqD K):=by
  subst h
  intro pins s σ H x y v u Q I rx ry h
  obtain ⟨d,e,h1,h2,s1,s2,nm,q⟩:=h
  obtain ⟨as,r1⟩:=I.rd h1 rx
  obtain ⟨bs,r2⟩:=I.rd h2 ry
  exact eq_dataH_same r1 r2 s1 s2 hu nm ⟨.bl _,H,I,rfl,q⟩
theorem op_neD (K:PySem.W.Frag)(hu:X.A.units+64<cLine)(h:X.K=K:=by rfl):OpR X (compareOp .NotEq) (rNeD K):=by
  subst h
  intro pins s σ H x y v u Q I rx ry h
  obtain ⟨d,e,h1,h2,s1,s2,nm,q⟩:=h
  obtain ⟨as,r1⟩:=I.rd h1 rx
  obtain ⟨bs,r2⟩:=I.rd h2 ry
  exact ne_dataH_same r1 r2 s1 s2 hu nm ⟨.bl _,H,I,rfl,q⟩
theorem hu64 {A:Around}{k:Nat}(hr:Room k A):A.units+64<cLine:=Nat.lt_of_le_of_lt (by omega) hr.un
end
theorem rds_ints {K:PySem.W.Frag}{H:Hp}:∀ ns:List Int,RdDs K H (ns.map V.int) (ns.map PyData.int)
  | []=>.nil
  | n::r=>.cons (.int n) (rds_ints r)
section
variable {K:PySem.W.Frag}{H:Hp}{Q:VK}{a b:Addr}
theorem rNeD_ints {ns ms:List Int}(h1:SqL K H a (ns.map V.int))(h2:SqL K H b (ms.map V.int))(q:Q (.bl (!decide (ns=ms))) H):rNeD K (.ref a) (.ref b) H Q :=
  ⟨_,_,.lst h1 (rds_ints ns),.lst h2 (rds_ints ms),PySem.W.ke_shaped_ints ns,PySem.W.ke_shaped_ints ms,SeqAt.noMix_of_shape (.list .int) rfl _ _ (list_map_has fun _=>rfl) (list_map_has fun _=>rfl),by rw [PySem.W.ke_same];exact q⟩
end
section
variable {K:PySem.W.Frag}{H:Hp}{Q:VK}{a b:Addr}
end
section
variable {X:Cx}
end
theorem tDNewK_ap {σ:St}{H:Hp}{Q:VK}:tDNewK σ H Q=∀ p,H p=none→Q (.ref p) (upd H p (.dK [])):=rfl
section
variable {K:PySem.W.Frag}{H:Hp}{Q:VK}{p:Addr}{xs:List V}
end
end L2
namespace BM
open PySem L2 PyProof.Rows
end BM
namespace L2
open PySem PySem.Spec PyProof.Rows
section
variable {X:Cx}{tg:Expr}
end
section
variable {X:Cx}
theorem tyV_str {K:PySem.W.Frag}{z:Str}{H:Hp}:tyV K "str" (.str z) H:=rfl
end
theorem int_mk {K:PySem.W.Frag}{h:Heap}{mg:Str→Option Value}{x:Str}{n:Int}{t:Tok}(X:K.In h)(G:h.Ns mainGlobals mg)(a:PySem.W.nsIn K mainGlobals x=some (some (.int n t))):∃ t,mg x=some (.int n t):=⟨t,PySem.W.mg_of X G a⟩
end L2
namespace L2
open PySem PySem.Spec PyProof.Rows
def MethAt (P:Program)(w:World)(K:PySem.W.Frag)(mg:Str→Option Value)(base:Heap)(C:Addr)(m:Str)(ps:List Str)(k:Nat)(sp:Sp):Prop :=
  Cls K C∧∃ f fd,Meth K C m f∧FnOk P w K mg base CX0 k f fd ps sp∧Binds K fd ps []
def MDefAt (K:PySem.W.Frag)(C:Addr)(m qual:Str)(st:Stmt)(ps:List Str):Prop:=∃ f fd,Fun K m qual st f fd∧Meth K C m f∧Binds K fd ps []
def MakeAt (P:Program)(w:World)(K:PySem.W.Frag)(mg:Str→Option Value)(base:Heap)(x:Str)(C:Addr)(ps:List Str)(k:Nat)(sp:Sp):Prop :=
  mg x=some (.ref C)∧∃ f fd,Mk K C f∧FnOk P w K mg base CX0 k f fd ps sp∧Binds K fd ps []
def MakerAt (K:PySem.W.Frag)(C:Addr)(qual:Str)(st:Stmt)(ps:List Str):Prop:=∃ f fd,Fun K "__init__" qual st f fd∧Mk K C f∧Binds K fd ps []
section
variable {P:Program}{w:World}{K:PySem.W.Frag}{mg:Str→Option Value}{base:Heap}
theorem MethAt.of {C:Addr}{m qual:Str}{st:Stmt}{N ps:List Str}{k:Nat}{sp:Sp}(c:Cls K C)(d:MDefAt K C m qual st ps)(S:FnScope N ps (defScope st))(len:∀ vs H Q E,sp vs H Q E→vs.length=ps.length)
    (hbody:∀ (f:Addr) (cdv:Value) (A:Around) (outer:List Env) (s:Shared) (H:Hp) (vs:List V) (Q:VK) (E:XK),Room k (A.deeper (envOfC qual (defScope st) s.heap.objs.size f cdv))→sp vs H Q E →
      ∃ t,PSs (cxOf CX0 P w K mg base N qual (defScope st) f cdv A outer s H E).nox (defBody st) t∧t { nx:=fun _ H'=>Q .non H',rt:=Q } (start N vs) H):MethAt P w K mg base C m ps (k+1) sp:=by
  obtain ⟨f,fd,F,m,b⟩:=d
  exact ⟨c,f,fd,m,F.ok S len (hbody f),b⟩
theorem MakeAt.of {x:Str}{C:Addr}{qual:Str}{st:Stmt}{N ps:List Str}{k:Nat}{sp:Sp}(hx:mg x=some (.ref C))(d:MakerAt K C qual st ps)(S:FnScope N ps (defScope st))(len:∀ vs H Q E,sp vs H Q E→vs.length=ps.length)
    (hbody:∀ (f:Addr) (cdv:Value) (A:Around) (outer:List Env) (s:Shared) (H:Hp) (vs:List V) (Q:VK) (E:XK),Room k (A.deeper (envOfC qual (defScope st) s.heap.objs.size f cdv))→sp vs H Q E →
      ∃ t,PSs (cxOf CX0 P w K mg base N qual (defScope st) f cdv A outer s H E).nox (defBody st) t∧t { nx:=fun _ H'=>Q .non H',rt:=Q } (start N vs) H):MakeAt P w K mg base x C ps (k+1) sp:=by
  obtain ⟨f,fd,F,m,b⟩:=d
  exact ⟨hx,f,fd,m,F.ok S len (hbody f),b⟩
theorem mdef_mk {C:Addr}{m qual:Str}{st:Stmt}{ps:List Str}{f:Addr}{oc:Value}{od an:Option Addr}{osl:Array (Option Value)}{kV doc pm cdv ct:Value}(a:PySem.W.findIn K (.ref C) m=some (some (.ref f)))
    (l:K.lookup f=some ⟨oc,od,.func (PySem.W.fnOf m qual (defArgs st) (defBody st) (defScope st) .none kV doc pm an cdv ct),osl⟩) (c:PySem.W.codeIn K cdv qual=true) (k:PySem.W.keepIn K (.ref f)=true) (fn:PySem.W.isFn K (.ref f)=true)
    (hb:∀ (kV doc pm:Value) (an:Option Addr) (cdv ct:Value) (us:List Value),us.length=ps.length→bindArgs (PySem.W.fnOf m qual (defArgs st) (defBody st) (defScope st) .none kV doc pm an cdv ct) ⟨us,[]⟩=pure (ps.zip us)):MDefAt K C m qual st ps :=
  ⟨f,_,fun_mk l c k,⟨a,fn,k⟩,(fun_mk l c k).binds hb⟩
theorem maker_mk {C:Addr}{qual:Str}{st:Stmt}{ps:List Str}{f:Addr}{oc:Value}{od an:Option Addr}{osl:Array (Option Value)}{kV doc pm cdv ct:Value}(a:PySem.W.findIn K (.ref C) "__init__"=some (some (.ref f)))
    (l:K.lookup f=some ⟨oc,od,.func (PySem.W.fnOf "__init__" qual (defArgs st) (defBody st) (defScope st) .none kV doc pm an cdv ct),osl⟩) (c:PySem.W.codeIn K cdv qual=true) (k:PySem.W.keepIn K (.ref f)=true) (fn:PySem.W.isFn K (.ref f)=true)
    (mk:PySem.W.makesIn K C=true) (kC:PySem.W.keepIn K (.ref C)=true)
    (hb:∀ (kV doc pm:Value) (an:Option Addr) (cdv ct:Value) (us:List Value),us.length=ps.length→bindArgs (PySem.W.fnOf "__init__" qual (defArgs st) (defBody st) (defScope st) .none kV doc pm an cdv ct) ⟨us,[]⟩=pure (ps.zip us)):MakerAt K C qual st ps :=
  ⟨f,_,fun_mk l c k,⟨mk,a,fn,kC⟩,(fun_mk l c k).binds hb⟩
end
def tMeD (P:Program)(w:World)(K:PySem.W.Frag)(mg:Str→Option Value)(base:Heap)(k0:Nat)(m:Str)(ta:TE)(t:TA):TE:=fun σ H Q=>ta σ H fun x H1=>∃ a C dx fs ps sp,x=.ref a∧H1 a=some (.ins C dx fs)∧fs.lookup m=none ∧
  MethAt P w K mg base C m ps k0 sp∧t σ H1 fun vs H2=>sp (x::vs) H2 Q E0
section
variable {X:Cx}{k0:Nat}{x m:Str}{p pos apos:Pos}{e o:Expr}{es:List Expr}{ta:TE}{t:TA}{P:Program}{w:World}{K:PySem.W.Frag}{mg:Str→Option Value}{base:Heap}
theorem pe_meD (k0:Nat){pl:Sem Bool}(hr:Room k0 X.A)(he:PE X o ta)(ha:PA X (e::es) t)(hP:X.prog=P:=by rfl)(hw:X.w=w:=by rfl)(hK:X.K=K:=by rfl)(hmg:X.mg=mg:=by rfl)(hbs:X.base=base:=by rfl)
    (hst:starEach (e::es) X.env=(false,eval e X.env)::starEach es X.env:=by rfl) (hpl:(backTo pos (starEach es X.env)).any (·.1)=false:=by rfl)
    (ht:eval (.Call (.Attribute o m apos) (e::es) [] pos) X.env=(do
      let ov ← eval o X.env
      standAt apos.atName
      let (f,first) ← holding [ov] (getMethod ov m pl)
      callWith pos f first (backTo pos (starEach (e::es) X.env)) (backToKw pos (keywordEach [] X.env))):=by rfl) :
    PE X (.Call (.Attribute o m apos) (e::es) [] pos) (tMeD P w K mg base k0 m ta t):=by
  subst hP hw hK hmg hbs
  intro pins s σ H Q I h
  refine PySem.W.methodCall_KW (pl:=pl) (thn (he pins s σ H _ I h) fun u s1 hz=>?_) ht
  obtain ⟨x,H1,I1,rx,a,C,dx,fs,ps,sp,ex,ea,l,⟨c,f,fd,me,F,b⟩,q⟩:=hz
  subst ex
  obtain rfl:u=Value.ref a:=rx
  refine getmeth_ok I1 ea c me l ?_
  refine PySem.W.callWith_K (first:=[.ref a]) (h₀:=X.base) I.ok.mod.kin me.kp (thn (ha pos pins s1 σ H1 _ I1 q) fun us s2 ⟨vs,H2,I2,r,q2⟩=>⟨I2.kIn,?_⟩) hst hpl
  exact run_fn (us:=.ref a::us) (vs:=.ref a::vs) (dvs:=[]) F hr b .nil pass0 I2 (.cons rfl r) (by rw [List.append_nil];exact q2)
theorem pe_makeF {C:Addr}{ps:List Str}{k:Nat}{sp:Sp}(F:MakeAt X.prog X.w X.K X.mg X.base x C ps k sp)(hr:Room (k+1) X.A)(hg:Gl X x)(ha:PA X (e::es) t)
    (hdb:(x==("__debug__":Str))=false:=by decide) (he:starEach (e::es) X.env=(false,eval e X.env)::starEach es X.env:=by rfl) (hpl:(backTo pos (starEach es X.env)).any (·.1)=false:=by rfl) :
    PE X (.Call (.Name x p) (e::es) [] pos) (tMake C sp [] E0 t):=by
  obtain ⟨hm,f,fd,M,F,b⟩:=F
  exact pe_make M F hr hg hm b .nil pass0 ha hdb he hpl
theorem ps_fldK (K:PySem.W.Frag){value:Expr}{f:Str}{tv:TE}{pos':Pos}(ha:PE X o ta)(hv:PE X value tv)(hs:swapsWith value (some (.Attribute o f pos')) pos.line X.env=pure false:=by rfl)(h:X.K=K:=by rfl):PS X (.Assign [.Attribute o f pos'] value pos) (sFld K ta tv f):=h ▸ ps_fld ha hv hs
theorem pe_fldK (K:PySem.W.Frag){f:Str}(he:PE X e ta)(h:X.K=K:=by rfl)(hb:attributeBase e f X.env (eval e X.env)=eval e X.env:=by rfl):PE X (.Attribute e f pos) (tFld K ta f):=h ▸ pe_fld he hb
end
section
variable {P:Program}{w:World}{K:PySem.W.Frag}{mg:Str→Option Value}{base:Heap}{k0:Nat}{m f:Str}{ta tv:TE}{t:TA}{σ:St}{H:Hp}{Q:VK}{C:Addr}{sp:Sp}{dvs:List V}{E:XK}{D:Ends}
theorem tMeD_ap:tMeD P w K mg base k0 m ta t σ H Q=ta σ H fun x H1=>∃ a C dx fs ps sp,x=.ref a∧H1 a=some (.ins C dx fs)∧fs.lookup m=none∧MethAt P w K mg base C m ps k0 sp∧t σ H1 fun vs H2=>sp (x::vs) H2 Q E0:=rfl
theorem tMake_ap:tMake C sp dvs E t σ H Q=t σ H fun vs H1=>∀ x dx,H1 x=none→H1 dx=none→dx≠x→sp (.ref x::(vs++dvs)) (upd (upd H1 dx (.own x)) x (.ins C dx [])) (fun v H2=>v=.non∧Q (.ref x) H2) E:=rfl
theorem tFld_ap:tFld K ta f σ H Q=ta σ H fun x H1=>∃ a C dx fs v,x=.ref a∧H1 a=some (.ins C dx fs)∧Cls K C∧NoAttr K C f∧fs.lookup f=some v∧Q v H1:=rfl
theorem sFld_ap:sFld K ta tv f D σ H=tv σ H fun y H1=>ta σ H1 fun x H2=>∃ a C dx fs,x=.ref a∧H2 a=some (.ins C dx fs)∧Cls K C∧NoAttr K C f∧fs.length<1000∧D.nx σ (upd H2 a (.ins C dx (putF f y fs))):=rfl
theorem tSl_ap {r:V→Option Int→Option Int→Hp→VK→Prop}{te:TE}{tl th:TO}:tSl r te tl th σ H Q=te σ H fun x H1=>tl σ H1 fun l H2=>th σ H2 fun u H3=>r x l u H3 Q:=rfl
theorem tNoPart_ap {R:Option Int→Hp→Prop}:tNoPart σ H R=R none H:=rfl
theorem tPart_ap {R:Option Int→Hp→Prop}:tPart ta σ H R=ta σ H fun x H1=>∃ i,x=.int i∧R (some i) H1:=rfl
theorem rSlL_ap {x:V}{lo hi:Option Int}:rSlL K x lo hi H Q=∃ a xs,x=.ref a∧SqL K H a xs∧∀ p,H p=none→Q (.ref p) (upd H p (.lst (cutV xs lo hi))):=rfl
theorem sl_listK {X:Cx}(K:PySem.W.Frag)(h:X.K=K:=by rfl):SlR X (rSlL K):=h ▸ sl_list
end
def CompYes (n i:Nat)(D:Addr)(I:Nat→List V→Hp→Prop)(y:V)(H6:Hp):Prop:=∃ xs,H6 D=some (.lst xs)∧xs.length<sizeLine∧∃ m',m'<n-i∧m'=n-(i+1)∧∃ ys,I (i+1) ys (upd H6 D (.lst (xs++[y])))
def CompNo (n i:Nat)(I:Nat→List V→Hp→Prop)(H5:Hp):Prop:=∃ m',m'<n-i∧m'=n-(i+1)∧∃ ys,I (i+1) ys H5
theorem compYes {n i:Nat}{D:Addr}{I:Nat→List V→Hp→Prop}{y:V}{H6:Hp}{ys:List V}(hn:n≤1000000)(hi:i<n)(hl:ys.length≤i)(h:H6 D=some (.lst ys))(q:I (i+1) (ys++[y]) (upd H6 D (.lst (ys++[y])))):CompYes n i D I y H6 :=
  ⟨ys,h,by rw [sizeLine_eq];omega,n-(i+1),by omega,rfl,_,q⟩
theorem compNo {n i:Nat}{I:Nat→List V→Hp→Prop}{H5:Hp}{ys:List V}(hi:i<n)(q:I (i+1) ys H5):CompNo n i I H5:=⟨n-(i+1),by omega,rfl,_,q⟩
theorem compG {J:It}{m n:Nat}{caps:List Nat}{g:TG}{tt:TT}{te:TE}{σ:St}{H1:Hp}{Q:VK}(I:Addr→Nat→List V→Hp→Prop)
    (h0:∀ D,H1 D=none→I D 0 [] (upd H1 D (.lst []))) (hl:∀ D i ys H2,I D i ys H2→i≤n)
    (hstop:∀ D ys H2,H1 D=none→I D n ys H2→J.stop n H2) (hgo:∀ D i ys H2,H1 D=none→i<n→I D i ys H2→J.go i H2)
    (turn:∀ D i ys H2 x H3,H1 D=none→i<n→I D i ys H2→J.yld i H2 x H3→g x (capSt m caps σ) H3 fun σ4 H4=>tt σ4 H4 fun b H5=>if b=true then te σ4 H5 fun y H6=>CompYes n i D (I D) y H6 else CompNo n i (I D) H5)
    (hq:∀ D ys H2,H1 D=none→I D n ys H2→Q (.ref D) H2):CompJ J m caps g tt te σ H1 Q:=by
  intro D hD
  refine ⟨fun i k H2=>k=n-i∧∃ ys,I D i ys H2,⟨n,rfl,[],h0 D hD⟩,?_⟩
  rintro i k H2 ⟨rfl,ys,hI⟩
  have h1:=hl D i ys H2 hI
  by_cases hlt:i<n
  · exact .inr ⟨hgo D i ys H2 hD hlt hI,fun x H3 y=>turn D i ys H2 x H3 hD hlt hI y⟩
  · have e:i=n:=by omega
    subst e
    exact .inl ⟨hstop D ys H2 hD hI,hq D ys H2 hD hI⟩
theorem Same.put {H H':Hp}{a:Addr}{o:HO}(s:Same H H')(h:H a=none):Same H (upd H' a o):=fun b u e=>by rw [upd_ne (ne_of_none e h)];exact s b u e
theorem Same.new {H:Hp}{a:Addr}{o:HO}(h:H a=none):Same H (upd H a o):=(Same.refl H).put h
end L2
namespace L2
open PySem PySem.Spec PyProof.Rows
section
variable {prog:Program}{w:World}{A:Around}{E:Value→Shared→Prop}{s:Shared}
end
section
variable {X:Cx}{e:Expr}{te:TE}{p p' pos pos':Pos}
end
end L2
namespace L2
open PySem PySem.Spec PyProof.Rows
section
variable {prog:Program}{w:World}{A:Around}{E:Value→Shared→Prop}
end
structure TyIns (K:PySem.W.Frag)(C:Addr):Prop where
  a:PySem.W.findIn K (.ref C) "__class__"=some (some (.builtin "object.__class__"))
  b:PySem.W.specialIn K (.builtin "object.__class__") "__get__"=some (some (.builtin "getset_descriptor.__get__"))
  c:PySem.W.takesIn K (.builtin "object.__class__")=some true
  d:PySem.W.mroIn K C (.type "object")=some true
def IsiTo (K:PySem.W.Frag)(mg:Str→Option Value)(C:Addr)(x:Str)(b:Bool):Prop:=∀ S,mg x=some (.ref S)→PySem.W.kitOne K (.ref C) (.ref S)=some b
theorem isi_to {K:PySem.W.Frag}{h:Heap}{mg:Str→Option Value}{x:Str}{C S:Addr}{b:Bool}(X:K.In h)(G:h.Ns mainGlobals mg)(a:PySem.W.nsIn K mainGlobals x=some (some (.ref S)))(r:PySem.W.kitOne K (.ref C) (.ref S)=some b):IsiTo K mg C x b:=fun T e=>by
  rw [PySem.W.mg_of X G a] at e
  cases e
  exact r
theorem all1 {α:Type}{p:List α→Prop}(h:∀ a,p [a]):∀ us:List α,us.length=1→p us
  | [a],_=>h a
theorem all2 {α:Type}{p:List α→Prop}(h:∀ a b,p [a,b]):∀ us:List α,us.length=2→p us
  | [a,b],_=>h a b
theorem all3 {α:Type}{p:List α→Prop}(h:∀ a b c,p [a,b,c]):∀ us:List α,us.length=3→p us
  | [a,b,c],_=>h a b c
theorem all4 {α:Type}{p:List α→Prop}(h:∀ a b c d,p [a,b,c,d]):∀ us:List α,us.length=4→p us
  | [a,b,c,d],_=>h a b c d
end L2
namespace BM
open PySem L2 PyProof.Rows
def fs (k:Nat):Nat→Nat→Nat
  | 0,_=>0
  | n+1,w=>w%2^k+fs k n (w/2^k)
end BM
namespace L2
open PySem PySem.Spec PyProof.Rows
section
variable {X:Cx}{pins:List (Addr × Obj)}{σ:St}{H:Hp}{s:Shared}{h':Heap}
end
structure ZipTn (z TI TO i1 i2 a b:Addr)(i:Nat)(h:Heap):Prop where
  z:IsZip h z TI TO .none
  ti:IsPair h TI (.ref i1) (.ref i2)
  to:∃ x y,IsPair h TO x y
  i1:h.IsListIter i1 a i
  i2:h.IsListIter i2 b i
theorem tChain_ap {r r':R2}{ta tb tc:TE}{σ:St}{H:Hp}{Q:VK}:tChain r r' ta tb tc σ H Q=ta σ H fun x H1=>tb σ H1 fun y H2=>r x y H2 fun z H3=>∃ k,z=.bl k∧(if k=true then tc σ H3 fun w' H4=>r' y w' H4 Q else Q (.bl false) H3):=rfl
end L2
namespace L2
open PySem PySem.Spec PyProof.Rows
section
variable {x:V}{vs:List V}{H:Hp}{Q:VK}
theorem rClear_ap:rClear x vs H Q=∃ l xs,x=.ref l∧vs=[]∧H l=some (.lst xs)∧Q .non (upd H l (.lst [])):=rfl
end
end L2
namespace ZT
open PySem PySem.Spec PyProof.Rows
section
variable {prog:Program}{w:World}{A:Around}{E:Value→Shared→Prop}{s:Shared}
end
section
variable {prog:Program}{w:World}{A:Around}{E:Value→Shared→Prop}{s:Shared}
end
section
variable {prog:Program}{w:World}{A:Around}{E:Value→Shared→Prop}{s:Shared}
end
end ZT
namespace L2
open PySem PySem.Spec PyProof.Rows
structure ZipTt (z TI TO i1 i2 a b:Addr)(i:Nat)(h:Heap):Prop where
  z:IsZip h z TI TO .none
  ti:IsPair h TI (.ref i1) (.ref i2)
  to:∃ x y,IsPair h TO x y
  i1:IsTupIter h i1 a i
  i2:IsTupIter h i2 b i
end L2
namespace L2
open PySem PySem.Spec PyProof.Rows
abbrev bmVal:List Value:=[.type "ValueError",.type "Exception",.type "BaseException",.type "object"]
structure XCls (K:PySem.W.Frag)(C:Addr):Prop where
  q:PySem.W.excIn K C bmVal "ValueError.__new__"=true
  kp:PySem.W.keepIn K (.ref C)=true
section
variable {K:PySem.W.Frag}{h:Heap}{C:Addr}
end
section
variable {P:Program}{w:World}{H:Hp}{h h':Heap}{a:Addr}{o:HO}
end
section
variable {X:Cx}{C:Addr}
end
end L2
namespace Srt
open PySem PyProof.Rows
structure Cmp (M:Model)(A:Around)(E:Value→Shared→Prop)(s:Shared)(kd:SortKind)(S:Keyed→Prop)(L:Keyed→Keyed→Bool):Prop where
  lt:∀ (x y:Keyed) (st:SortSt) (Q:Option Bool→SortSt→Prop),S x→S y→kindOf st=kd→Q (some (L x y)) st→wpS M A E s (lt' x y) Q st
  asym:∀ x y,L x y=true→L y x=false
  neg:∀ x y z,S x→S y→S z→L x z=true→L x y=true∨L y z=true
section
variable {M:Model}{A:Around}{E:Value→Shared→Prop}{s:Shared}{kd:SortKind}{S:Keyed→Prop}{L:Keyed→Keyed→Bool}
def pb (L:Keyed→Keyed→Bool)(left:Bool)(key:Keyed)(arr:Array Keyed)(base i:Nat):Bool:=match arr[base+i]? with
  | some x=>if left then L x key else !L key x
  | none=>false
end
end Srt
namespace Srt
open PySem PyProof.Rows
structure Ord (S:Keyed→Prop)(L:Keyed→Keyed→Bool):Prop where
  asym:∀ x y,L x y=true→L y x=false
  neg:∀ x y z,S x→S y→S z→L x z=true→L x y=true∨L y z=true
abbrev Rise (L:Keyed→Keyed→Bool)(l:List Keyed):Prop:=l.Pairwise fun x y=>L y x=false
section
variable {S:Keyed→Prop}{L:Keyed→Keyed→Bool}
structure MI (L:Keyed→Keyed→Bool)(al bl ol:List Keyed)(ia ib:Nat):Prop where
  perm:ol.Perm (al.take ia++bl.take ib)
  rise:Rise L ol
  lea:∀ x∈ol,∀ y∈al.drop ia,L y x=false
  leb:∀ x∈ol,∀ y∈bl.drop ib,L y x=false
  ha:ia≤al.length
  hb:ib≤bl.length
end
structure Sm (st st':SortSt):Prop where
  kind:kindOf st'=kindOf st
  arr:arrOf st'=arrOf st
  pend:pendingOf st'=pendingOf st
  failed:failedOf st'=failedOf st
section
variable {M:Model}{A:Around}{E:Value→Shared→Prop}{s:Shared}{kd:SortKind}{S:Keyed→Prop}{L:Keyed→Keyed→Bool}
variable {a b out:Array Keyed}{ia ib k:Nat}
structure MS (L:Keyed→Keyed→Bool)(st:SortSt)(a b out:Array Keyed)(ia ib:Nat)(st':SortSt):Prop where
  sm:Sm st st'
  mi:MI L a.toList b.toList out.toList ia ib
  ha:ia+1<a.size
  hb:ib<b.size
end
end Srt
namespace Srt
open PySem PyProof.Rows
section
variable {S:Keyed→Prop}{L:Keyed→Keyed→Bool}
structure MH (L:Keyed→Keyed→Bool)(al bl ol:List Keyed)(na nb:Nat):Prop where
  perm:ol.Perm (al.drop na++bl.drop nb)
  rise:Rise L ol
  lea:∀ x∈ol,∀ y∈al.take na,L x y=false
  leb:∀ x∈ol,∀ y∈bl.take nb,L x y=false
  ha:na≤al.length
  hb:nb≤bl.length
variable {a b out:Array Keyed}{na nb k:Nat}
end
section
variable {M:Model}{A:Around}{E:Value→Shared→Prop}{s:Shared}{kd:SortKind}{S:Keyed→Prop}{L:Keyed→Keyed→Bool}
structure MHS (L:Keyed→Keyed→Bool)(st:SortSt)(a b out:Array Keyed)(na nb:Nat)(st':SortSt):Prop where
  sm:Sm st st'
  mi:MH L a.toList b.toList out.reverse.toList na nb
  ha:0<na
  hb:1<nb
variable {a b out:Array Keyed}{na nb k:Nat}
end
end Srt
namespace Srt
open PySem PyProof.Rows
section
variable {S:Keyed→Prop}{L:Keyed→Keyed→Bool}
end
structure Two (L:Keyed→Keyed→Bool)(st:SortSt)(i:Nat)(pre A B post:List Keyed):Prop where
  arr:(arrOf st).toList=pre++(A++(B++post))
  pa:∃ pw,(pendingOf st)[i]?=some (pre.length,A.length,pw)
  pb:∃ pw,(pendingOf st)[i+1]?=some (pre.length+A.length,B.length,pw)
  rA:Rise L A
  rB:Rise L B
  nA:0<A.length
  nB:0<B.length
section
variable {M:Model}{Ar:Around}{E:Value→Shared→Prop}{s:Shared}{kd:SortKind}{S:Keyed→Prop}{L:Keyed→Keyed→Bool}
end
end Srt
namespace Srt
open PySem PyProof.Rows
structure Sa (st st':SortSt):Prop where
  kind:kindOf st'=kindOf st
  pend:pendingOf st'=pendingOf st
  failed:failedOf st'=failedOf st
section
variable {M:Model}{Ar:Around}{E:Value→Shared→Prop}{s:Shared}{kd:SortKind}{S:Keyed→Prop}{L:Keyed→Keyed→Bool}
end
end Srt
namespace Srt
open PySem PyProof.Rows
abbrev Fall (L:Keyed→Keyed→Bool)(l:List Keyed):Prop:=l.Pairwise fun x y=>L x y=false
structure CR (st st':SortSt)(pre all D T:List Keyed):Prop where
  sa:Sa st st'
  arr:(arrOf st').toList=pre++(D++T)
  perm:(D++T).Perm all
section
variable {M:Model}{Ar:Around}{E:Value→Shared→Prop}{s:Shared}{kd:SortKind}{S:Keyed→Prop}{L:Keyed→Keyed→Bool}
structure Dn (L:Keyed→Keyed→Bool)(D:List Keyed)(neq:Nat):Prop where
  fall:Fall L D
  lt:neq<D.length
  same:∀ x∈D.drop (D.length-(neq+1)),∀ y∈D.drop (D.length-(neq+1)),L x y=false
end
end Srt
namespace Srt
open PySem PyProof.Rows
def Pd (L:Keyed→Keyed→Bool):Nat→List (Nat × Nat × Nat)→List (List Keyed)→Prop
  | _,[],[]=>True
  | off,p::ps,R::rs=>p.1=off∧p.2.1=R.length∧0<R.length∧Rise L R∧Pd L (off+R.length) ps rs
  | _,_,_=>False
section
variable {S:Keyed→Prop}{L:Keyed→Keyed→Bool}
structure SI (L:Keyed→Keyed→Bool)(kd:SortKind)(all:List Keyed)(st:SortSt)(runs:List (List Keyed))(T:List Keyed):Prop where
  arr:(arrOf st).toList=runs.flatten++T
  perm:(runs.flatten++T).Perm all
  pend:Pd L 0 (pendingOf st).toList runs
  kind:kindOf st=kd
  failed:failedOf st=none
end
section
variable {M:Model}{Ar:Around}{E:Value→Shared→Prop}{s:Shared}{kd:SortKind}{S:Keyed→Prop}{L:Keyed→Keyed→Bool}
end
end Srt
namespace Srt
open PySem PyProof.Rows
section
variable {prog:Program}{w:World}{Ar:Around}{E:Value→Shared→Prop}{s:Shared}
end
end Srt
namespace L2
open PySem PySem.Spec PyProof.Rows
section
variable {X:Cx}
end
end L2
namespace Srt
open PySem PyProof.Rows PySem.W
section
variable {prog:Program}{w:World}{Ar:Around}{E:Value→Shared→Prop}{s:Shared}
end
end Srt
namespace L2
open PySem PySem.Spec PyProof.Rows
section
variable {X:Cx}
end
end L2
namespace SG
open PySem PySem.Spec PyProof.Rows
def Ris (xs:Array Nat):Prop:=∀ i j (hj:j<xs.size) (h:i<j),xs[i]<xs[j]
theorem Ris.le {xs:Array Nat}(r:Ris xs){i j:Nat}(hj:j<xs.size)(h:i≤j):xs[i]≤xs[j]:=by
  rcases Nat.lt_or_ge i j with q | q
  · exact Nat.le_of_lt (r i j hj q)
  · have:i=j:=Nat.le_antisymm h q
    subst this
    exact Nat.le_refl _
theorem go_ok {xs:Array Nat} (r:Ris xs) (j:Nat):∀ (n lo hi:Nat),hi-lo≤n→lo≤hi→hi≤xs.size→(∀ i (h:i<xs.size),i<lo→xs[i]<j)→(∀ i (h:i<xs.size),hi≤i→j≤xs[i]) →
    (∀ i (h:i<xs.size),i<SetTable.below.go xs j n lo hi→xs[i]<j)∧(∀ i (h:i<xs.size),SetTable.below.go xs j n lo hi≤i→j≤xs[i])∧SetTable.below.go xs j n lo hi≤xs.size
  | 0,lo,hi,hn,h1,h2,a,b=>by
    have e:lo=hi:=by omega
    subst e
    unfold SetTable.below.go
    exact ⟨a,b,h2⟩
  | n + 1,lo,hi,hn,h1,h2,a,b=>by
    unfold SetTable.below.go
    by_cases q:lo<hi
    · rw [if_pos q]
      have hm:(lo+hi)/2<xs.size:=by omega
      have eg:xs.getD ((lo+hi)/2) j=xs[(lo+hi)/2]:=by simp [Array.getD,hm]
      dsimp only
      rw [eg]
      by_cases c:xs[(lo+hi)/2]<j
      · rw [if_pos c]
        refine go_ok r j n ((lo+hi)/2+1) hi (by omega) (by omega) h2 (fun i h hi'=>?_) b
        exact Nat.lt_of_le_of_lt (r.le hm (by omega)) c
      · rw [if_neg c]
        refine go_ok r j n lo ((lo+hi)/2) (by omega) (by omega) (by omega) a (fun i h hi'=>?_)
        exact Nat.le_trans (Nat.le_of_not_lt c) (r.le h hi')
    · rw [if_neg q]
      have e:lo=hi:=by omega
      subst e
      exact ⟨a,b,h2⟩
theorem below_ok {xs:Array Nat}(r:Ris xs)(j:Nat):(∀ i (h:i<xs.size),i<SetTable.below xs j→xs[i]<j)∧(∀ i (h:i<xs.size),SetTable.below xs j≤i→j≤xs[i])∧SetTable.below xs j≤xs.size:=by
  unfold SetTable.below
  exact go_ok r j xs.size 0 xs.size (by omega) (by omega) (Nat.le_refl _) (fun i h z=>absurd z (Nat.not_lt_zero _)) (fun i h z=>absurd h (by omega))
theorem ris_iff {xs:Array Nat}:Ris xs↔xs.toList.Pairwise (·<·):=by
  rw [List.pairwise_iff_getElem]
  constructor
  · intro r i j hi hj h
    have:=r i j (by simpa using hj) h
    simpa using this
  · intro r i j hj h
    have:=r i j (by simp;omega) (by simpa using hj) h
    simpa using this
theorem ris_put {xs:Array Nat}(r:Ris xs){j:Nat}(n:xs[SetTable.below xs j]?≠some j):Ris (SetTable.insertAt xs (SetTable.below xs j) j):=by
  obtain ⟨a,b,c⟩:=below_ok r j
  have b':∀ i (h:i<xs.size),SetTable.below xs j≤i→j<xs[i]:=by
    intro i h q
    have h1:=b i h q
    rcases Nat.lt_or_ge j xs[i] with z | z
    · exact z
    · exfalso
      have e:xs[i]=j:=Nat.le_antisymm z h1
      have hp:SetTable.below xs j<xs.size:=by omega
      have e2:xs[SetTable.below xs j]=j:=Nat.le_antisymm (by have:=r.le h q;omega) (b _ hp (Nat.le_refl _))
      apply n
      rw [Array.getElem?_eq_getElem hp,e2]
  generalize SetTable.below xs j=p at a b' c
  rw [ris_iff] at r ⊢
  unfold SetTable.insertAt
  have e:((xs.extract 0 p).push j++xs.extract p xs.size).toList=xs.toList.take p++j::xs.toList.drop p:=by
    simp [Array.toList_extract,List.extract]
    exact List.take_of_length_le (by rw [List.length_drop,Array.length_toList];exact Nat.le_refl _)
  rw [e,List.pairwise_append]
  refine ⟨r.sublist (List.take_sublist _ _),?_,?_⟩
  · rw [List.pairwise_cons]
    refine ⟨fun y hy=>?_,r.sublist (List.drop_sublist _ _)⟩
    obtain ⟨i,hi,rfl⟩:=List.mem_iff_getElem.mp hy
    rw [List.getElem_drop]
    have hl:p+i<xs.size:=by rw [List.length_drop,Array.length_toList] at hi;omega
    have:=b' (p+i) hl (by omega)
    simpa using this
  · intro y hy z hz
    have hy1:y<j:=by
      obtain ⟨i,hi,rfl⟩:=List.mem_iff_getElem.mp hy
      rw [List.getElem_take]
      have hl:i<p:=by rw [List.length_take] at hi;omega
      have:=a i (by rw [List.length_take,Array.length_toList] at hi;omega) hl
      simpa using this
    rcases List.mem_cons.mp hz with rfl | hz
    · exact hy1
    · obtain ⟨i,hi,rfl⟩:=List.mem_iff_getElem.mp hz
      rw [List.getElem_drop]
      have hl:p+i<xs.size:=by rw [List.length_drop,Array.length_toList] at hi;omega
      have:=b' (p+i) hl (by omega)
      have:j<xs.toList[p+i]'(by simpa using hl):=by simpa using this
      omega
theorem probe_free {t:SetTable} {f:Nat→Int} {h:Int}:∀ (n:Nat) (p:SetTable.Probe) (j:Nat) (d:Option Nat),(∀ x,p.dummy=some x→t.slot x=.dummy)→SetTable.probe.go t f h n p=some (.empty j d)→(t.slot j=.empty)∧∀ x,d=some x→t.slot x=.dummy
  | 0,p,j,d,hd,e=>by unfold SetTable.probe.go at e;cases e
  | n + 1,p,j,d,hd,e=>by
    unfold SetTable.probe.go at e
    have adv:∀ q:SetTable.Probe,(t.advance q).dummy=q.dummy:=by
      intro q
      unfold SetTable.advance
      split<;>rfl
    split at e
    · rename_i hs
      cases e
      exact ⟨hs,hd⟩
    · rename_i hs
      refine probe_free n _ j d (fun x hx=>?_) e
      rw [adv] at hx
      cases hx
      exact hs
    · split at e
      · cases e
      · refine probe_free n _ j d (fun x hx=>?_) e
        rw [adv] at hx
        exact hd x hx
theorem slot_not {t:SetTable}{j:Nat}(h:t.slot j=.empty∨t.slot j=.dummy):t.place[SetTable.below t.place j]?≠some j:=by
  intro e
  unfold SetTable.slot at h
  simp only [e,beq_self_eq_true,if_true] at h
  rcases h with h | h<;>cases h
theorem free_not {t:SetTable}{h:Int}{j:Nat}{b:Bool}(e:t.freeSlot h=some (j,b)):t.place[SetTable.below t.place j]?≠some j:=by
  unfold SetTable.freeSlot at e
  split at e
  · rename_i j0 d hp
    unfold SetTable.probe at hp
    obtain ⟨h1,h2⟩:=probe_free _ _ _ _ (fun x hx=>by cases hx) hp
    cases e
    cases d with
    | none=>exact slot_not (.inl h1)
    | some x=>exact slot_not (.inr (h2 x rfl))
  · cases e
structure Good (bt:Bool)(t:SetTable):Prop where
  led:t.led=!bt
  ris:t.plain=true→Ris t.place
theorem Good.standIn {bt:Bool}{t:SetTable}(g:Good bt t)(n:Nat):Good bt (t.standIn n):=⟨g.led,fun h=>by cases h⟩
theorem Good.layNew {bt:Bool}{t:SetTable}(g:Good bt t)(es:Array (Int × Value))(h:Int)(x:Value):Good bt (layNew t es h x).2.1:=by
  unfold PySem.layNew
  split
  · rename_i j b e
    show Good bt ((t.put j).1.orStandIn _)
    have gp:Good bt (t.put j).1:=⟨g.led,fun hp=>ris_put (g.ris hp) (free_not e)⟩
    unfold SetTable.orStandIn
    split
    · exact gp
    · exact gp.standIn _
  · exact g.standIn _
theorem Good.relayAll {bt:Bool}{t:SetTable}(g:Good bt t)(es:Array (Int × Value))(n:Nat):Good bt (relayAll t es n).2.1:=by
  unfold PySem.relayAll
  split
  · rename_i t' ord e
    have gt:Good bt t':=by
      unfold SetTable.relaid SetTable.laid at e
      simp only [Option.bind_eq_bind,Option.bind_eq_some_iff,Option.pure_def] at e
      obtain ⟨ow,_,e⟩:=e
      cases e
      refine ⟨g.led,fun _=>?_⟩
      rw [ris_iff]
      show (List.map _ _).Pairwise _
      rw [List.pairwise_map]
      refine List.Pairwise.filterMap (R:=(·<·)) _ (fun a a' haa b hb c hc=>?_) List.pairwise_lt_range
      simp only [Option.map_eq_some_iff] at hb hc
      obtain ⟨_,_,rfl⟩:=hb
      obtain ⟨_,_,rfl⟩:=hc
      exact haa
    dsimp only
    split
    · exact gt
    · exact g.standIn _
  · exact g.standIn _
end SG
namespace SG
open PySem PySem.Spec PyProof.Rows
def iv:Value→Int
  | .int k _=>k
  | _=>0
def bt (w:World):Bool:=w.params.followText "set-order"
def ST (prog:Program)(w:World)(h:Heap)(a:Addr)(ks:List Int):Prop :=
  ∃ o es ep t,h.get? a=some o∧o.ExactSet∧o.data=.set es ep t∧ElemsOf (intKind prog w) es.toList∧es.size<scanBound∧t.fits es.size=true∧Good (bt w) t∧(es.toList.map fun e=>iv e.2)=ks∧ks.Nodup
section
variable {prog:Program}{w:World}{A:Around}{E:Value→Shared→Prop}{s:Shared}
theorem isInt_iv {k:Int}{e:Int × Value}{es:List (Int × Value)}(el:ElemsOf (intKind prog w) es)(he:e∈es):(intKind prog w).is k e.2=true↔iv e.2=k:=by
  obtain ⟨⟨k',h1,_⟩,_⟩:=el e he
  obtain ⟨t,e2⟩:=Value.isInt_shape h1
  rw [e2]
  constructor
  · intro h
    exact (intKind prog w).inj _ _ _ (intKind_is prog w k' t) h
  · intro h
    have h:k'=k:=h
    subst h
    exact intKind_is prog w k' t
theorem put_at {h:Heap}{a:Addr}{o:Obj}{es:Array (Int × Value)}{ep:Nat}{t:SetTable}(ho:h.get? a=some o)(hd:o.data=.set es ep t)(es':Array (Int × Value))(t':SetTable) :
    (h.update a (Obj.putSet es' t')).get? a=some { o with data:=.set es' (ep+1) t' }:=by
  have q:=Heap.get?_update_self (Obj.putSet es' t') ho (by rw [putSet_of es' t' hd];rfl)
  rw [putSet_of es' t' hd] at q
  exact q
theorem size_perm {es es':Array (Int × Value)}(p:es'.toList.Perm es.toList):es'.size=es.size:=by
  rw [← Array.length_toList,p.length_eq,Array.length_toList]
theorem tail_add {g:Bool→Sem Unit}(hg:∀ (b:Bool) (s1:Shared) (Q':Unit→Shared→Prop),Q' () s1→wpAny (model prog w) A (g b) Q' E s1){a:Addr}{o:Obj}{es:Array (Int × Value)}{ep:Nat}{t:SetTable}(ho:s.heap.get? a=some o)(hx:o.ExactSet)(hd:o.data=.set es ep t)
    {es1:Array (Int × Value)} {t2:SetTable} {wd:Bool} {R:Option Bool→Shared→Prop} (el:ElemsOf (intKind prog w) es1.toList) (hb:es1.size<scanBound) (hf:t2.fits es1.size=true) (gd:Good (bt w) t2) (nd:(es1.toList.map fun e=>iv e.2).Nodup)
    (q:∀ h' ks',Heap.SameBut a s.heap h'→ST prog w h' a ks'→ks'.Perm (es1.toList.map fun e=>iv e.2)→R (some true) { s with heap:=h' }) :
    wpAny (model prog w) A (do storeSet a es1 t2;if (!wd&&t2.tooFull)=true then (do g (relayAll t2 es1 (SetTable.grown es1.size)).2.2;storeSet a (relayAll t2 es1 (SetTable.grown es1.size)).1 (relayAll t2 es1 (SetTable.grown es1.size)).2.1;pure (some true)) else pure (some true)) R E s:=by
  refine wpAny_bind (wpAny_storeSet_of ho hd ?_ (fits_of_scanBound hb))
  have ho1:=put_at ho hd es1 t2
  have sb:=Heap.SameBut.update s.heap a (Obj.putSet es1 t2)
  split
  · have pp:=relayAll_perm t2 es1 (SetTable.grown es1.size)
    have pf:=relayAll_fits t2 es1 (SetTable.grown es1.size)
    have pg:=gd.relayAll es1 (SetTable.grown es1.size)
    generalize relayAll t2 es1 (SetTable.grown es1.size)=Z at pp pf pg ⊢
    obtain ⟨es2,t3,gv⟩:=Z
    have pp:es2.toList.Perm es1.toList:=pp
    have hb2:es2.size<scanBound:=by rw [size_perm pp];exact hb
    refine wpAny_bind (hg _ _ _ (wpAny_bind (wpAny_storeSet_of ho1 rfl ?_ (fits_of_scanBound hb2))))
    refine wpAny_pure (q _ _ (sb.trans (Heap.SameBut.update _ a _)) ⟨_,es2,_,t3,put_at ho1 rfl es2 t3,hx,rfl,el.perm pp,hb2,pf,pg,rfl,?_⟩ (pp.map _))
    exact (pp.map fun e=>iv e.2).nodup_iff.mpr nd
  · exact wpAny_pure (q _ _ sb ⟨_,es1,_,t2,ho1,hx,rfl,el,hb,hf,gd,rfl,nd⟩ (.refl _))
theorem add_int {a:Addr} {ks:List Int} {k:Int} {tk:Tok} {Q:Bool→Shared→Prop} (hS:ST prog w s.heap a ks) (room:ks.length+1<scanBound)
    (q:∀ b h' ks',Heap.SameBut a s.heap h'→ST prog w h' a ks'→(∀ y,y∈ks'↔y∈ks∨y=k)→ks'.length≤ks.length+1→Q b { s with heap:=h' }):wpAny (model prog w) A (setAddHashed a (.int k tk) ((intKind prog w).hash k)) Q E s:=by
  obtain ⟨o,es,ep,t,ho,hx,hd,el,hb,hf,gd,rfl,nd⟩:=hS
  have hk:=intKind_is prog w k tk
  have lz:(es.toList.map fun e=>iv e.2).length=es.size:=by rw [List.length_map,Array.length_toList]
  unfold setAddHashed;unfold setAddHashedIn;refine wpAny_holding (wpAny_bind (wpAny_setState_of ho hd hf ?_));dsimp only
  rw [byScan_of (x:=Value.int k tk) rfl hb el,if_pos rfl]
  unfold setAddByScan
  refine wpAny_bind (wpAny_bind (wpAny_rule (wpAny_bind (wpAny_setScan_of hk ho hd hf el ?_))))
  cases hr:List.findIdx? (fun e=>(intKind prog w).is k e.2) es.toList with
  | some j =>
    dsimp only
    obtain ⟨hj,pj,_⟩:=List.findIdx?_eq_some_iff_getElem.mp hr
    have hm:k∈es.toList.map fun e=>iv e.2:=List.mem_map.mpr ⟨_,List.getElem_mem hj,(isInt_iv el (List.getElem_mem hj)).mp pj⟩
    refine wpAny_pure (wpAny_pure ?_)
    have:=q false s.heap _ (Heap.SameBut.refl a s.heap) ⟨o,es,ep,t,ho,hx,hd,el,hb,hf,gd,rfl,nd⟩ (fun y=>⟨.inl,fun z=>z.elim id fun e=>e ▸ hm⟩) (Nat.le_succ _)
    exact this
  | none =>
    dsimp only
    have hm:k∉es.toList.map fun e=>iv e.2:=by
      intro z
      obtain ⟨e,he,e1⟩:=List.mem_map.mp z
      have:=List.findIdx?_eq_none_iff.mp hr e he
      rw [(isInt_iv el he).mpr e1] at this
      cases this
    have gw:∀ (b:Bool) (s1:Shared) (Q':Unit→Shared→Prop),Q' () s1→wpAny (model prog w) A (match b with | true=>rule "set.scan.the-table-gave-way" | false=>pure ()) Q' E s1:=fun b s1 Q' z=>by
      cases b
      · exact wpAny_pure z
      · exact wpAny_rule z
    have lp:=layNew_perm t es ((intKind prog w).hash k) (.int k tk)
    have lf:=layNew_fits t es ((intKind prog w).hash k) (.int k tk)
    have lg:=gd.layNew es ((intKind prog w).hash k) (.int k tk)
    generalize layNew t es ((intKind prog w).hash k) (.int k tk)=Z at lp lf lg ⊢
    obtain ⟨es1,t1,wd,gv⟩:=Z
    have lf:t1.fits es1.size=true:=lf
    have lg:Good (bt w) t1:=lg
    have lp:es1.toList.Perm (es.toList++[((intKind prog w).hash k,.int k tk)]):=by
      have:=lp
      rwa [Array.toList_push] at this
    have el1:ElemsOf (intKind prog w) es1.toList:=(el.push hk rfl).perm lp
    have l1:es1.size=es.size+1:=by
      have:=lp.length_eq
      rw [List.length_append,Array.length_toList,Array.length_toList] at this
      exact this
    have hb1:es1.size<scanBound:=by rw [l1];rw [lz] at room;exact room
    have pm:(es1.toList.map fun e=>iv e.2).Perm ((es.toList.map fun e=>iv e.2)++[k]):=by
      have:=lp.map fun e=>iv e.2
      rwa [List.map_append] at this
    have nd1:(es1.toList.map fun e=>iv e.2).Nodup:=by
      rw [pm.nodup_iff,List.nodup_append]
      exact ⟨nd,(by simp),fun x hx y hy e=>hm (by rw [List.mem_singleton.mp hy] at e;rw [← e];exact hx)⟩
    have fin:∀ h' ks',Heap.SameBut a s.heap h'→ST prog w h' a ks'→ks'.Perm (es1.toList.map fun e=>iv e.2)→Q true { s with heap:=h' }:=fun h' ks' sb st p=>by
      refine q true h' ks' sb st (fun y=>?_) ?_
      · rw [p.mem_iff,pm.mem_iff,List.mem_append,List.mem_singleton]
      · rw [p.length_eq,List.length_map,Array.length_toList,l1,lz]
        exact Nat.le_refl _
    dsimp only
    refine wpAny_bind (gw _ _ _ ?_)
    split
    · refine wpAny_bind ?_
      rw [hashByValue_scannable 8 (x:=Value.int k tk) rfl]
      refine wpAny_pure (tail_add (fun b s1 Q' z=>gw b s1 Q' z) ho hx hd el1 hb1 ?_ ?_ nd1 fun h' ks' sb st p=>wpAny_pure (fin h' ks' sb st p))
      · exact lf
      · exact lg
    · refine wpAny_bind (wpAny_pure (tail_add (fun b s1 Q' z=>gw b s1 Q' z) ho hx hd el1 hb1 ?_ ?_ nd1 fun h' ks' sb st p=>wpAny_pure (fin h' ks' sb st p)))
      · exact lf
      · exact lg
set_option maxHeartbeats 3200000 in
end
end SG
namespace SG
open PySem PySem.Spec PyProof.Rows
section
variable {prog:Program}{w:World}{A:Around}{E:Value→Shared→Prop}{s:Shared}{a:Addr}{o:Obj}{es:Array (Int × Value)}{ep:Nat}{t:SetTable}
end
end SG
namespace SG
open PySem PySem.Spec PyProof.Rows
section
variable {prog:Program}{w:World}{A:Around}{E:Value→Shared→Prop}{s:Shared}{a I:Addr}{o:Obj}{es:Array (Int × Value)}{ep:Nat}{t:SetTable}
end
end SG
namespace SG
open PySem PySem.Spec PyProof.Rows
structure Wk (prog:Program)(w:World)(h0 h2:Heap)(a:Addr)(ks:List Int)(I:Addr):Prop where
  ex:∃ (fp wr:List Addr) (vs:List Value) (ks':List Int) (St:Nat→Heap→Prop),(∀ A:Around,A.handled=none→Walks prog w A I fp wr vs.length (fun i v=>vs[i]?=some v) St)∧St 0 h2∧(∀ b∈fp,b<h2.objs.size)∧I∈fp∧(∀ b∈wr,h0.get? b=none)∧IntsAre vs ks'∧ks'.Perm ks∧(∀ b∈fp,b=a∨h0.get? b=none)
  old:∀ b o,h0.get? b=some o→h2.get? b=some o
section
variable {prog:Program}{w:World}{A:Around}{E:Value→Shared→Prop}{s:Shared}{a I:Addr}{o:Obj}{es:Array (Int × Value)}{ep:Nat}{t:SetTable}
end
end SG
namespace SG
open PySem PySem.Spec PyProof.Rows
section
variable {prog:Program}{w:World}{A:Around}{E:Value→Shared→Prop}{s:Shared}{a:Addr}
end
end SG
namespace SG
open PySem PySem.Spec PyProof.Rows Srt
section
variable {prog:Program}{w:World}{Ar:Around}{E:Value→Shared→Prop}{s:Shared}{a:Addr}
end
end SG
namespace L2
open PySem PySem.Spec PyProof.Rows
section
variable {X:Cx}{pins:List (Addr × Obj)}{σ:St}{H:Hp}{s:Shared}
end
section
variable {X:Cx}{e:Expr}{te:TE}{p p' pos pos':Pos}
end
end L2
namespace L2
open PySem PySem.Spec PyProof.Rows Srt SG
theorem hu1 {A:Around}{k:Nat}(hr:Room k A):A.units+1<cLine:=Nat.lt_of_le_of_lt (by omega) (hu64 hr)
section
variable {td ty tx tv:TE}{σ:St}{H:Hp}{Q:VK}{D:Ends}
theorem tDGet_ap:tDGet td ty σ H Q=td σ H fun x H1=>ty σ H1 fun y H2=>∃ a v,x=.ref a∧DGet H2 a y (some v)∧Q v H2:=rfl
theorem sDPut_ap:sDPut td ty tv D σ H=tv σ H fun v H1=>td σ H1 fun x H2=>ty σ H2 fun y H3=>∃ a H4,x=.ref a∧DPut H3 a y v H4∧D.nx σ H4:=rfl
end
section
variable {X:Cx}{x:Str}{p pos:Pos}
end
section
variable {X:Cx}
end
end L2
namespace L2
open PySem PySem.Spec PyProof.Rows
def del (H:Hp)(p:Addr):Hp:=fun b=>if b=p then none else H b
theorem del_same {H:Hp}{p:Addr}:del H p p=none:=by unfold del;rw [if_pos rfl]
theorem del_ne {H:Hp}{p b:Addr}(h:b≠p):del H p b=H b:=by unfold del;rw [if_neg h]
theorem del_some {H:Hp}{p b:Addr}{o:HO}(h:del H p b=some o):b≠p∧H b=some o:=by
  have n:b≠p:=fun z=>by rw [z,del_same] at h;cases h
  rw [del_ne n] at h
  exact ⟨n,h⟩
section
variable {X:Cx}{pins:List (Addr × Obj)}{σ:St}{H H':Hp}{s:Shared}{p:Addr}{xs:List V}
end
section
variable {X:Cx}{P:Program}{w:World}{K:PySem.W.Frag}{mg:Str→Option Value}{base:Heap}{o e:Expr}{es:List Expr}{m:Str}{ta:TE}{t:TA}{apos pos:Pos}
end
end L2
namespace L2
open PySem PySem.Spec PyProof.Rows
section
variable {td ty tx:TE}{σ:St}{H:Hp}{Q:VK}
end
end L2
namespace L2
open PySem PySem.Spec PyProof.Rows
section
variable {X:Cx}{o e f:Expr}{apos cpos:Pos}{td ty tx:TE}
end
end L2
namespace L2
open PySem PySem.Spec PyProof.Rows
section
variable {X:Cx}
theorem boot_allB:bootBuiltins "all"=some (.builtin "all"):=by decide +kernel
def rAll (K:PySem.W.Frag):List V→Hp→VK→Prop:=fun xs H Q=>∃ (p:Addr) (bs:List Bool),xs=[.ref p]∧SqL K H p (bs.map V.bl)∧Q (.bl (bs.all id)) H
theorem call_allK (K:PySem.W.Frag) (hK:X.K=K:=by rfl) (hc:X.calm=true:=by rfl):CallR X (.builtin "all") (rAll K):=by
  subst hK
  intro pins s σ H xs us Q I r h
  obtain ⟨p,bs,rfl,hS,q⟩:=h
  obtain ⟨u,rfl,ru⟩:=r.one
  cases (show u=Value.ref p from ru)
  obtain ⟨its,vi,pl,hz⟩:=I.list hS
  have ne:p≠s.heap.objs.size:=by obtain ⟨o,e,_⟩:=pl.isList;exact Nat.ne_of_lt (Heap.lt_size e)
  have hb:∀ (i:Nat) (v:Value),its.toArray[i]?=some v→v=.bool (bs.getD i false):=fun i v e=>by
    have e2:its[i]?=some v:=by simpa using e
    have hi:i<bs.length:=by
      have:=(List.getElem?_eq_some_iff.mp e2).1
      have:=vi.length
      rw [List.length_map] at this
      omega
    obtain ⟨u,hu,ru⟩:=vi.get (i:=i) (x:=.bl (bs.getD i false)) (by rw [List.getElem?_map,List.getElem?_eq_getElem hi,List.getD_eq_getElem?_getD,List.getElem?_eq_getElem hi];rfl)
    rw [hu] at e2
    cases e2
    exact ru
  refine call_all_walk (wpAny_pyIter_list pl.isList ?_)
  refine ⟨s.heap.objs.size,_,_,_,_,_,fun i=>bs.getD i false,rfl,Walks.list (A:=X.A.in1) (show X.A.in1.handled=none from I.ok.hd hc) s.heap.objs.size p ne its.toArray,⟨⟨_,Heap.get?_push_size _ rfl,rfl,rfl⟩,pl.isList.push _⟩,fun i v s2 Q2 E2 hP hQ=>?_,fun h' tk hk=>?_⟩
  · rw [hb i v hP]
    exact wpAny_truthy_bool hQ
  · have e:(List.range its.toArray.size).all (fun i=>bs.getD i false)=bs.all id:=by
      have hl:its.toArray.size=bs.length:=by
        have:=vi.length
        rw [List.length_map] at this
        simpa using this.symm
      rw [hl,Bool.eq_iff_iff,List.all_eq_true,List.all_eq_true]
      constructor
      · intro w b hbm
        obtain ⟨i,hi,rfl⟩:=List.mem_iff_getElem.mp hbm
        have:=w i (List.mem_range.mpr hi)
        rw [List.getD_eq_getElem?_getD,List.getElem?_eq_getElem hi] at this
        exact this
      · intro w i hi
        have hi:=List.mem_range.mp hi
        rw [List.getD_eq_getElem?_getD,List.getElem?_eq_getElem hi]
        exact w _ (List.getElem_mem hi)
    rw [e]
    refine ⟨.bl (bs.all id),H,?_,rfl,q⟩
    exact I.kept (t':=tk) fun b o q2=>hk b o (by
      intro z
      have:b=s.heap.objs.size:=by simpa using z
      exact absurd (Heap.lt_size q2) (by rw [this];exact Nat.lt_irrefl _)) (Heap.get?_push_of_some _ q2)
theorem rAll_ap {K:PySem.W.Frag}{xs:List V}{H:Hp}{Q:VK}:rAll K xs H Q=∃ (p:Addr) (bs:List Bool),xs=[.ref p]∧SqL K H p (bs.map V.bl)∧Q (.bl (bs.all id)) H:=rfl
end
end L2
namespace L2
open PySem PySem.Spec PyProof.Rows
section
variable {X:Cx}
theorem boot_anyB:bootBuiltins "any"=some (.builtin "any"):=by decide +kernel
def rAny (K:PySem.W.Frag):List V→Hp→VK→Prop:=fun xs H Q=>∃ (p:Addr) (bs:List Bool),xs=[.ref p]∧SqL K H p (bs.map V.bl)∧Q (.bl (bs.any id)) H
theorem rAny_ap {K:PySem.W.Frag}{xs:List V}{H:Hp}{Q:VK}:rAny K xs H Q=∃ (p:Addr) (bs:List Bool),xs=[.ref p]∧SqL K H p (bs.map V.bl)∧Q (.bl (bs.any id)) H:=rfl
theorem range_getD (bs:List Bool):(List.range bs.length).map (fun i=>bs.getD i false)=bs:=by
  refine List.ext_getElem (by rw [List.length_map,List.length_range]) fun i h1 h2=>?_
  rw [List.getElem_map,List.getElem_range,List.getD_eq_getElem?_getD,List.getElem?_eq_getElem h2]
  rfl
theorem call_anyK (K:PySem.W.Frag)(hK:X.K=K:=by rfl)(hc:X.calm=true:=by rfl):CallR X (.builtin "any") (rAny K):=by
  subst hK
  intro pins s σ H xs us Q I r h
  obtain ⟨p,bs,rfl,hS,q⟩:=h
  obtain ⟨u,rfl,ru⟩:=r.one
  cases (show u=Value.ref p from ru)
  obtain ⟨its,vi,pl,hz⟩:=I.list hS
  have ll:its.length=bs.length:=by
    have:=vi.length
    rw [List.length_map] at this
    exact this.symm
  have lt:p<s.heap.objs.size:=by
    obtain ⟨o,e,_⟩:=pl.isList
    exact Heap.lt_size e
  refine call_any_walk (wpAny_pyIter_list pl.isList ⟨s.heap.objs.size,_,_,_,_,_,fun i=>bs.getD i false,rfl,Walks.list (A:=X.A.in1) (I.ok.hd hc) s.heap.objs.size p (Nat.ne_of_lt lt) its.toArray,⟨⟨_,Heap.get?_push_size _ rfl,rfl,rfl⟩,pl.isList.push _⟩,fun i v s2 Q2 E2 hP hQ=>?_,fun h' tk hk=>⟨.bl (bs.any id),H,I.kept (t':=tk) fun b o q2=>hk b o (fun z=>?_) (Heap.get?_push_of_some _ q2),?_,q⟩⟩)
  · have hP:its[i]?=some v:=by simpa using hP
    have hi:i<bs.length:=by have:=(List.getElem?_eq_some_iff.mp hP).1;omega
    obtain ⟨y,hy,ry⟩:=vi.get (i:=i) (x:=.bl (bs.getD i false)) (by rw [List.getElem?_map,List.getElem?_eq_getElem hi,List.getD_eq_getElem?_getD,List.getElem?_eq_getElem hi];rfl)
    cases hP.symm.trans hy
    cases ry
    exact wpAny_truthy_bool hQ
  · have z:b=s.heap.objs.size:=by simpa using z
    exact Nat.lt_irrefl _ (z ▸ Heap.lt_size q2)
  · show Value.bool _=Value.bool _
    rw [List.size_toArray,ll]
    congr 1
    have:=range_getD bs
    conv=>rhs;rw [← this,List.any_map]
    rfl
def rDictOf:List V→Hp→VK→Prop:=fun xs H Q=>∃ (a:Addr) (kvs:List (Key × V)),xs=[.ref a]∧H a=some (.dK kvs)∧∀ p,H p=none→Q (.ref p) (upd H p (.dK kvs))
theorem rDictOf_ap {xs:List V}{H:Hp}{Q:VK}:rDictOf xs H Q=∃ (a:Addr) (kvs:List (Key × V)),xs=[.ref a]∧H a=some (.dK kvs)∧∀ p,H p=none→Q (.ref p) (upd H p (.dK kvs)):=rfl
theorem call_dictOf:CallR X (.type "dict") rDictOf:=by
  intro pins s σ H xs us Q I r h
  obtain ⟨a,kvs,rfl,e,q⟩:=h
  obtain ⟨u,rfl,ru⟩:=r.one
  cases (show u=Value.ref a from ru)
  obtain ⟨z,hd,vs,rel,dd⟩:=dk_of I.hok e
  have big:(s.heap.objs.size==sysModules)=false:=by
    have:=(dk_empty (P:=X.prog) (w:=X.w) (H:=H) s.heap I.big).2.1
    exact this
  refine kt_call_dict hd dd (by rw [← rel.length];exact z) fun h' d' sb=>⟨.ref s.heap.objs.size,_,I.laid (a:=s.heap.objs.size) (o:=.dK kvs) (t':=s.toks) (fun b o q2=>(sb.2 b (Nat.ne_of_lt (Heap.lt_size q2))).trans (Heap.get?_push_of_some _ q2)) (Nat.le_refl _) (dk_new z big rel d'),rfl,q _ (I.hok.fresh (Nat.le_refl _))⟩
def rNeKS:R2:=fun x y H Q=>∃ (a b:Addr) (kvs:List (Key × V)),x=.ref a∧y=.ref b∧H a=some (.dK kvs)∧H b=some (.dK kvs)∧(kvs.map (·.1)).Nodup∧(∀ kv∈kvs,∃ i,kv.2=.int i)∧Q (.bl false) H
theorem rNeKS_ap {x y:V}{H:Hp}{Q:VK}:rNeKS x y H Q=∃ (a b:Addr) (kvs:List (Key × V)),x=.ref a∧y=.ref b∧H a=some (.dK kvs)∧H b=some (.dK kvs)∧(kvs.map (·.1)).Nodup∧(∀ kv∈kvs,∃ i,kv.2=.int i)∧Q (.bl false) H:=rfl
theorem valV_nd:∀ {kvs:List (Key × V)} {k:Key} {v:V},(kvs.map (·.1)).Nodup→(k,v)∈kvs→valV kvs k=some v
  | [],_,_,_,h=>nomatch h
  | (k',v')::r,k,v,nd,h=>by
    obtain ⟨n1,n2⟩:=List.nodup_cons.mp nd
    unfold valV
    rw [List.find?_cons]
    rcases List.mem_cons.mp h with e | e
    · cases e
      simp
    · have ne:k'≠k:=fun z=>n1 (z ▸ List.mem_map.mpr ⟨_,e,rfl⟩)
      simp only [ne,decide_false]
      exact valV_nd n2 e
theorem hits_same {A:Around}{s:Shared}{kvs:List (Key × V)}{vb:List (Key × Value)}(nd:(kvs.map (·.1)).Nodup)(hi:∀ kv∈kvs,∃ i,kv.2=.int i)(rb:KV kvs vb):∀ {ks:List (Key × V)} {va:List (Key × Value)},(∀ x∈ks,x∈kvs)→KV ks va→PySem.W.KeqHits A s vb va true
  | [],_,_,.nil=>.nil
  | (k,v)::r,(k',v')::q,hs,.cons h t=>by
    obtain ⟨ek,rv⟩:=h
    have ek:k'=k:=by first | exact ek | exact ek.symm
    subst ek
    obtain ⟨i,e⟩:=hi _ (hs _ (.head _))
    have e:v=.int i:=e
    subst e
    have y:=rb.val k'
    rw [valV_nd nd (hs _ (.head _))] at y
    cases z:valueAt vb k' with
    | none=>rw [z] at y;exact absurd y (by intro q;cases q)
    | some u =>
      rw [z] at y
      obtain ⟨t1,rfl⟩:=(show RelV (.int i) v' from rv)
      obtain ⟨t2,rfl⟩:=(show RelV (.int i) u from y)
      have eq:=PySem.W.keq_flat (A:=A) (s:=s) (v:=.int i t1) (y:=.int i t2) (d:=.int i) (e:=.int i) (fun _=>.int ..) (fun _=>.int ..)
      have h3:=PySem.W.KeqHits.hit (A:=A) (s:=s) z eq (hits_same nd hi rb (fun x hx=>hs x (.tail _ hx)) t)
      have e1:(PyData.eqv (.int i) (.int i)&&true)=true:=by simp [PyData.eqv]
      rw [e1] at h3
      exact h3
theorem op_neK (hu:X.A.units+1<cLine):OpR X (compareOp .NotEq) rNeKS:=by
  intro pins s σ H x y v u Q I rx ry h
  obtain ⟨a,b,kvs,rfl,rfl,ha,hb,nd,hi,q⟩:=h
  cases rx
  cases ry
  obtain ⟨z1,d1,va,r1,e1⟩:=dk_of I.hok ha
  obtain ⟨z2,d2,vb,r2,e2⟩:=dk_of I.hok hb
  refine PySem.W.keq_ne (r:=true) d1 d2 e1 e2 (by omega) (fun _=>hits_same nd hi r2 (fun _ h=>h) r1) (fin_bl I q ?_)
  rw [← r1.length,← r2.length]
  simp
end
end L2
namespace L2
open PySem PySem.Spec PyProof.Rows
def Top (f:Nat→Int)(d m:Int)(j:Nat):Prop:=(j=0→m=d)∧(0<j→(∃ i,i<j∧f i=m)∧∀ i,i<j→f i≤m)
theorem Top.more {f:Nat→Int}{d m:Int}{j:Nat}(h:Top f d m j)(hj:0<j)(hm:f j≤m):Top f d m (j+1):=by
  obtain ⟨⟨i,hi,e⟩,a⟩:=h.2 hj
  refine ⟨fun z=>by omega,fun _=>⟨⟨i,by omega,e⟩,fun x hx=>?_⟩⟩
  by_cases z:x=j
  · rw [z];exact hm
  · exact a x (by omega)
theorem Top.new {f:Nat→Int}{d m:Int}{j:Nat}(h:Top f d m j)(hm:0<j→m<f j):Top f d (f j) (j+1):=by
  refine ⟨fun z=>by omega,fun _=>⟨⟨j,by omega,rfl⟩,fun x hx=>?_⟩⟩
  by_cases z:x=j
  · rw [z];exact Int.le_refl _
  · have:=(h.2 (by omega)).2 x (by omega)
    have:=hm (by omega)
    omega
section
variable {prog:Program}{w:World}{A:Around}{R:Result→Shared→Prop}{I S:Addr}{fp wr:List Addr}{n:Nat}{P:Nat→Value→Prop}{St:Nat→Heap→Prop}
theorem mx_loop (W:Walks prog w A.in1 I fp wr n P St) {f:Nat→Int} (hP:∀ i v,P i v→∃ t,v=.int (f i) t) (hS:S∉fp) {d:Int} {kn:Str} {td:Tok}:∀ (k j:Nat) (s:Shared) (m:Int) (vs:Array Value) (c:Nat),j+k=n→St j s.heap→Top f d m j →
    (j=0→vs=#[])→(0<j→∃ t,vs=#[.int m t,.int m t])→s.heap.get? S=some { cls:=.type "list",data:=.seq vs c } →
    (∀ m t h' tk,Top f d m n→(∀ b o,b∉wr→b≠S→s.heap.get? b=some o→h'.get? b=some o)→R (.ok (.ret (.int m t))) { s with heap:=h',toks:=tk }) →
    codeAny (model prog w) A (.builtin "max.loop" ⟨[.ref I,.none,.ref S],[(kn,.int d td)]⟩) R s:=by
  have nw:S∉wr:=fun h=>hS (W.sub _ h)
  have nm:(toString "max"++toString ".loop":String)="max.loop":=by decide
  intro k
  induction k with
  | zero =>
    intro j s m vs c ek hst top h0 h1 ho r
    have ej:j=n:=by omega
    subst ej
    refine codeAny_builtin F.entry_max_loop ?_
    rw [Around.under_plainId F.plain_max_loop _]
    refine wpAny_bind (m:=seqItems? (.ref S)) (wpAny_seqItems ho rfl ?_)
    refine wpAny_bind (wpAny_tryCatch (W.done s _ _ hst fun h' tk hk=>?_))
    rcases Nat.eq_zero_or_pos j with z | z
    · cases h0 z
      refine wpAny_bind (wpAny_rule (wpAny_pure ?_))
      cases top.1 z
      exact r d td h' tk top fun b o hb _ e=>hk b o hb e
    · obtain ⟨t,rfl⟩:=h1 z
      refine wpAny_bind (m:=updateSeq S fun _=>#[]) (wpAny_updateSeq (hk S _ nw ho) rfl (wpAny_bind (wpAny_letGo (wpAny_pure ?_))))
      exact r m t _ tk top fun b o hb n e=>(Heap.get?_update_other _ _ (Ne.symm n)).trans (hk b o hb e)
  | succ k ih =>
    intro j s m vs c ek hst top h0 h1 ho r
    refine codeAny_builtin F.entry_max_loop ?_
    rw [Around.under_plainId F.plain_max_loop _]
    refine wpAny_bind (m:=seqItems? (.ref S)) (wpAny_seqItems ho rfl ?_)
    refine wpAny_bind (wpAny_tryCatch (W.item j s _ _ (by omega) hst fun v h' tk pv hst' hk=>?_))
    obtain ⟨tv,rfl⟩:=hP j v pv
    have ho':=hk S _ nw ho
    rcases Nat.eq_zero_or_pos j with z | z
    · cases h0 z
      refine wpAny_bind (m:=updateSeq S fun _=>#[.int (f j) tv,.int (f j) tv]) (wpAny_updateSeq ho' rfl ?_)
      rw [nm]
      refine wpAny_pure ⟨plainId_quiet F.plain_max_loop _,ih (j+1) _ (f j) _ _ (by omega) (W.frame _ _ _ hst' fun b hb o e=>?_) (top.new fun q=>by omega) (fun q=>by omega) (fun _=>⟨tv,rfl⟩) (Heap.get?_update_self _ ho' rfl) fun m' t' h'' tk' tp hk'=>?_⟩
      · exact (Heap.get?_update_other _ _ (fun h:S=b=>hS (by rw [h];exact hb))).trans e
      · exact r m' t' h'' tk' tp fun b o hb n e=>hk' b o hb n ((Heap.get?_update_other _ _ (Ne.symm n)).trans (hk b o hb e))
    · obtain ⟨t,rfl⟩:=h1 z
      have cm:=CmpOf.ints_gt (prog:=prog) (w:=w) (A:=A.in1) (P:=fun i v=>∃ t,v=.int (if i=0 then f j else m) t) (fun i=>if i=0 then f j else m) (fun _ _ h=>h)
      show wpAny _ A.in1 (tryCatch (holding [.int (f j) tv,.int (f j) tv] (richCompare .Gt (.int (f j) tv) (.int m t) >>= _)) _ >>= _) _ _ _
      refine wpAny_bind (wpAny_tryCatch (wpAny_holding (wpAny_bind (cm 0 1 (.int (f j) tv) (.int m t) _ _ _ ⟨tv,rfl⟩ ⟨t,rfl⟩ ?_))))
      refine wpAny_bind (wpAny_holding (wpAny_truthy_bool ?_))
      refine wpAny_bind (wpAny_letGo (wpAny_pure ?_))
      by_cases g:f j > m
      · have:decide ((if (0:Nat)=0 then f j else m) > if (1:Nat)=0 then f j else m)=true:=by simpa using g
        rw [if_pos this]
        refine wpAny_bind ?_
        refine wpAny_updateSeq ho' rfl (wpAny_bind (wpAny_letGo ?_))
        rw [nm]
        refine wpAny_pure ⟨plainId_quiet F.plain_max_loop _,ih (j+1) _ (f j) _ _ (by omega) (W.frame _ _ _ hst' fun b hb o e=>?_) (top.new fun q=>g) (fun q=>by omega) (fun _=>⟨tv,rfl⟩) (Heap.get?_update_self _ ho' rfl) fun m' t' h'' tk' tp hk'=>?_⟩
        · exact (Heap.get?_update_other _ _ (fun h:S=b=>hS (by rw [h];exact hb))).trans e
        · exact r m' t' h'' tk' tp fun b o hb n e=>hk' b o hb n ((Heap.get?_update_other _ _ (Ne.symm n)).trans (hk b o hb e))
      · have:decide ((if (0:Nat)=0 then f j else m) > if (1:Nat)=0 then f j else m)=false:=by simpa using g
        rw [if_neg (fun h=>Bool.noConfusion (this.symm.trans h))]
        refine wpAny_bind (wpAny_letGo ?_)
        rw [nm]
        refine wpAny_pure ⟨plainId_quiet F.plain_max_loop _,ih (j+1) _ m _ _ (by omega) hst' (top.more z (by omega)) (fun q=>by omega) (fun _=>⟨t,rfl⟩) ho' fun m' t' h'' tk' tp hk'=>?_⟩
        exact r m' t' h'' tk' tp fun b o hb n e=>hk' b o hb n (hk b o hb e)
end
theorem boot_dict:bootBuiltins "dict"=some (.type "dict"):=by decide +kernel
theorem mx_args (a v:Value):argsOk "max" ⟨[a],[(Str.ofString "default",v)]⟩:=by unfold argsOk;kernel_rfl
section
variable {prog:Program}{w:World}{A:Around}{E:Value→Shared→Prop}{s:Shared}
theorem call_maxD {x:Value}{d:Int}{td:Tok}{Q:Value→Shared→Prop}
    (h:wpAny (model prog w) A.in1 (pyIter x) (fun it s₂=>∃ I fp wr n P St f,it=.ref I∧Walks prog w A.in1 I fp wr n P St∧St 0 s₂.heap∧(∀ b∈fp,b<s₂.heap.objs.size)∧(∀ i v,P i v→∃ t,v=.int (f i) t) ∧
      ∀ m t h' tk,Top f d m n→(∀ b o,b∉wr→s₂.heap.get? b=some o→h'.get? b=some o)→Q (.int m t) { s₂ with heap:=h',toks:=tk }) E s) :
    wpAny (model prog w) A (call (.builtin "max") [x] [(Str.ofString "default",.int d td)]) Q E s:=by
  have nm:(toString "max"++toString ".loop":String)="max.loop":=by decide
  refine kmb_tree F.kind_max F.plain_max F.entry_max (mx_args _ _) ?_
  show wpAny _ A.in1 (Builtin.Builtins.bindParams "max" ["key","default"] 0 ⟨[],[(Str.ofString "default",.int d td)]⟩ >>= _) _ _ s
  refine wpAny_bind (wpAny_of_eq (show Builtin.Builtins.bindParams "max" ["key","default"] 0 ⟨[],[(Str.ofString "default",.int d td)]⟩=pure [none,some (.int d td)] from rfl) ?_)
  refine wpAny_bind (wpAny_pure ?_)
  refine wpAny_bind (wpAny_mono h (fun it s₂ h₂=>?_) fun _ _ e=>e)
  obtain ⟨I,fp,wr,n,P,St,f,rfl,W,hst,hfp,hP,hQ⟩:=h₂
  refine wpAny_bind (wpAny_newObj_type ?_)
  have hSf:s₂.heap.objs.size∉fp:=fun hm=>Nat.lt_irrefl _ (hfp _ hm)
  rw [nm]
  refine wpAny_pure ⟨plainId_quiet F.plain_max_loop _,mx_loop W hP hSf n 0 _ d _ _ (by omega) (W.frame _ _ _ hst fun b _ o e=>Heap.get?_push_of_some _ e) ⟨fun _=>rfl,fun q=>absurd q (Nat.lt_irrefl _)⟩ (fun _=>rfl) (fun q=>absurd q (Nat.lt_irrefl _)) (Heap.get?_push_size _ rfl) fun m t h' tk tp hk=>?_⟩
  exact hQ m t h' tk tp fun b o hbw e=>hk b o hbw (Nat.ne_of_lt (Heap.lt_size e)) (Heap.get?_push_of_some _ e)
theorem Top.list {ns:List Int} {d m:Int} (h:Top (fun i=>ns.getD i 0) d m ns.length):m=ns.max?.getD d:=by
  cases ns with
  | nil=>exact h.1 rfl
  | cons a r =>
    obtain ⟨⟨i,hi,e⟩,q⟩:=h.2 (Nat.succ_pos _)
    have:(a::r).max?=some m:=by
      refine List.max?_eq_some_iff.mpr ⟨?_,fun b hb=>?_⟩
      · rw [← e]
        show (a::r).getD i 0∈_
        rw [List.getD_eq_getElem?_getD,List.getElem?_eq_getElem hi]
        exact List.getElem_mem hi
      · obtain ⟨j,hj,rfl⟩:=List.mem_iff_getElem.mp hb
        have:(a::r).getD j 0≤m:=q j hj
        rw [List.getD_eq_getElem?_getD,List.getElem?_eq_getElem hj] at this
        exact this
    rw [this]
    rfl
end
section
variable {X:Cx}{x:Str}{p pos:Pos}{e:Expr}{es:List Expr}{kws:List Keyword}{ks:List Str}{t tk:TA}{id:String}{r:List V→List V→Hp→VK→Prop}
def CallRK (X:Cx) (f:Value) (ks:List Str) (r:List V→List V→Hp→VK→Prop):Prop :=
  ∀ (pins:List (Addr × Obj)) (s:Shared) (σ:St) (H:Hp) (xs zs:List V) (us ws:List Value) (Q:VK),Inv X pins σ H s→Vals xs us→Vals zs ws→r xs zs H Q →
    wpAny (model X.prog X.w) X.A (call f us (ks.zip ws)) (EP X pins σ Q) X.xe s
def tCBK (r:List V→List V→Hp→VK→Prop)(t tk:TA):TE:=fun σ H Q=>t σ H fun vs H1=>tk σ H1 fun zs H2=>r vs zs H2 Q
theorem pe_callBK (hc:CallRK X (.builtin id) ks r)(hg:Gl X x)(hm:X.mg x=none)(hv:bootBuiltins x=some (.builtin id))(ha:PA X (e::es) t)(hkw:PK X kws tk)
    (hks:(backToKw pos (keywordEach kws X.env)).filterMap (·.1)=ks:=by rfl) (hn:x≠"__name__":=by decide) (hdb:(x==("__debug__":Str))=false:=by decide)
    (he:backTo pos (starEach (e::es) X.env)=(false,eval e X.env)::backTo pos (starEach es X.env):=by rfl)
    (hpl:(backTo pos (starEach (e::es) X.env)).any (·.1)=false:=by rfl)
    (hall:(backToKw pos (keywordEach kws X.env)).all (·.1.isSome)=true:=by rfl)
    (hno:(backToKw pos (keywordEach kws X.env)).any (·.1.isNone)=false:=by rfl):PE X (.Call (.Name x p) (e::es) kws pos) (tCBK r t tk):=by
  intro pins s σ H Q I h
  refine wpAny_Call_Name_kw (ld_blt I hg hm hv ?_ hn hdb)
  refine callWith_kw (thn (ha pos pins s σ H _ I h) fun us s1 ⟨vs,H1,I1,r1,q1⟩=>?_) he hpl hall hno
  refine thn (hkw pos pins s1 σ H1 _ I1 q1) fun ws s2 ⟨zs,H2,I2,rz,q2⟩=>?_
  rw [hks]
  exact hc pins s2 σ H2 vs zs us ws Q I2 r1 rz q2
def rMaxD (K:PySem.W.Frag):List V→List V→Hp→VK→Prop:=fun xs zs H Q=>∃ (p:Addr) (ns:List Int) (d:Int),xs=[.ref p]∧zs=[.int d]∧SqL K H p (ns.map V.int)∧Q (.int (ns.max?.getD d)) H
theorem call_maxDK (K:PySem.W.Frag)(hK:X.K=K:=by rfl)(hc:X.calm=true:=by rfl):CallRK X (.builtin "max") [Str.ofString "default"] (rMaxD K):=by
  subst hK
  intro pins s σ H xs zs us ws Q I r rz h
  obtain ⟨p,ns,d,rfl,rfl,hS,q⟩:=h
  obtain ⟨u,rfl,ru⟩:=r.one
  cases (show u=Value.ref p from ru)
  obtain ⟨u,rfl,ru⟩:=rz.one
  obtain ⟨td,rfl⟩:∃ t,u=Value.int d t:=ru
  obtain ⟨its,vi,pl,hz⟩:=I.list hS
  have ne:p≠s.heap.objs.size:=by obtain ⟨o,e,_⟩:=pl.isList;exact Nat.ne_of_lt (Heap.lt_size e)
  have hl:its.length=ns.length:=by
    have:=vi.length
    rw [List.length_map] at this
    exact this.symm
  have hb:∀ (i:Nat) (v:Value),its.toArray[i]?=some v→∃ t,v=.int (ns.getD i 0) t:=fun i v e=>by
    have e2:its[i]?=some v:=by simpa using e
    have hi:i<ns.length:=by
      have:=(List.getElem?_eq_some_iff.mp e2).1
      omega
    obtain ⟨u,hu,ru⟩:=vi.get (i:=i) (x:=.int (ns.getD i 0)) (by rw [List.getElem?_map,List.getElem?_eq_getElem hi,List.getD_eq_getElem?_getD,List.getElem?_eq_getElem hi];rfl)
    rw [hu] at e2
    cases e2
    exact ru
  refine call_maxD (wpAny_pyIter_list pl.isList ?_)
  refine ⟨s.heap.objs.size,_,_,_,_,_,fun i=>ns.getD i 0,rfl,Walks.list (A:=X.A.in1) (show X.A.in1.handled=none from I.ok.hd hc) s.heap.objs.size p ne its.toArray,⟨⟨_,Heap.get?_push_size _ rfl,rfl,rfl⟩,pl.isList.push _⟩,fun b hb=>?_,hb,fun m t h' tk tp hk=>?_⟩
  · obtain ⟨o,e,_⟩:=pl.isList
    have lp:=Heap.lt_size e
    have:b=s.heap.objs.size∨b=p:=by simpa using hb
    show b<(s.heap.push _).objs.size
    rw [size_push']
    rcases this with rfl | rfl
    · exact Nat.lt_succ_self _
    · exact Nat.lt_succ_of_lt lp
  · rw [List.size_toArray,hl] at tp
    cases tp.list
    refine ⟨.int _,H,?_,⟨t,rfl⟩,q⟩
    exact I.kept (t':=tk) fun b o q2=>hk b o (by
      intro z
      have:b=s.heap.objs.size:=by simpa using z
      exact absurd (Heap.lt_size q2) (by rw [this];exact Nat.lt_irrefl _)) (Heap.get?_push_of_some _ q2)
end
end L2
namespace L2
open PySem PySem.Spec PyProof.Rows
structure MkN (K:PySem.W.Frag)(C:Addr):Prop where
  makes:PySem.W.makesIn K C=true
  init:PySem.W.findIn K (.ref C) "__init__"=some (some (.builtin "object.__init__"))
  kp:PySem.W.keepIn K (.ref C)=true
def tNew (C:Addr):TE:=fun _ H Q=>∀ x dx,H x=none→H dx=none→dx≠x→Q (.ref x) (upd (upd H dx (.own x)) x (.ins C dx []))
theorem tNew_ap {C:Addr}{σ:St}{H:Hp}{Q:VK}:tNew C σ H Q=∀ x dx,H x=none→H dx=none→dx≠x→Q (.ref x) (upd (upd H dx (.own x)) x (.ins C dx [])):=rfl
section
variable {X:Cx}{C:Addr}{x:Str}{p pos:Pos}
theorem run_new {pins:List (Addr × Obj)}{σ:St}{H:Hp}{s:Shared}{Q:VK}(M:MkN X.K C)(I:Inv X pins σ H s)
    (h:∀ x dx,H x=none→H dx=none→dx≠x→Q (.ref x) (upd (upd H dx (.own x)) x (.ins C dx []))) :
    wpAny (model X.prog X.w) X.A (call (.ref C) []) (EP X pins σ Q) X.xe s:=by
  have hq:=h (s.heap.objs.size+1) s.heap.objs.size (I.hok.fresh (Nat.le_succ _)) (I.hok.fresh (Nat.le_refl _)) (Nat.ne_of_lt (Nat.lt_succ_self _))
  have I2:=Inv.made (C:=C) I
  obtain ⟨hh,g,d,t,os⟩:=s
  dsimp only at I2 hq
  have Y:=PySem.W.makes_of (M:=model X.prog X.w) I.kIn M.makes
  refine wpAny_call (PySem.W.make_core Y (PySem.W.looks_findIn I.kIn M.init) (fun self=>PySem.W.Looks.of_pure (PySem.W.oi_bind self)) (.inr ⟨rfl,rfl⟩) ?_)
  have g1:((hh.push PySem.W.emptyDict).push (PySem.W.instObj C hh.objs.size)).get? (hh.objs.size+1)=some (PySem.W.instObj C hh.objs.size):=by
    have:=Heap.get?_push_size (hh.push PySem.W.emptyDict) (o:=PySem.W.instObj C hh.objs.size) rfl
    rw [Heap.size_push] at this
    exact this
  have t1:PySem.W.Looks (model X.prog X.w) ((hh.push PySem.W.emptyDict).push (PySem.W.instObj C hh.objs.size)) (typeOf (.ref (hh.objs.size+1))) (.ref C):=PySem.W.Looks.andThen (PySem.W.Looks.ld g1) PySem.W.Looks.now
  have t2:PySem.W.Looks (model X.prog X.w) ((hh.push PySem.W.emptyDict).push (PySem.W.instObj C hh.objs.size)) (isInstance (.ref (hh.objs.size+1)) (.type "object")) true:=PySem.W.Looks.andThen t1 (PySem.W.Looks.keeps (h:=hh) Y.top fun b o e=>Heap.get?_push_of_some (PySem.W.instObj C hh.objs.size) (Heap.get?_push_of_some PySem.W.emptyDict e))
  refine codeAny_call_builtin PySem.W.oi_plain PySem.W.entry_oi ?_
  have z:=@PySem.W.check_slot (model X.prog X.w) (X.A.under (.builtin "type.__call__" ⟨[.ref C],[]⟩)).in1
  have z:=@z (fun e s'=>PySem.W.InitBack (hh.objs.size+1) (fun r s₁=>match r with | .ok (.ret v)=>EP X pins σ Q v s₁ | .ok _=>False | .error e=>X.xe e s₁) (.error e) s') { heap:=(hh.push PySem.W.emptyDict).push (PySem.W.instObj C hh.objs.size),gens:=g,drawn:=d,toks:=t,os:=os } "object.__init__" "object" "__init__" (.ref (hh.objs.size+1)) [] []
  have z:=fun Q=>@z Q PySem.W.oi_kind PySem.W.oi_split t2 (PySem.W.oi_args _)
  refine z _ ?_
  rw [PySem.W.oi_run]
  exact wpAny_pure ⟨rfl,V.ref (hh.objs.size+1),_,I2,rfl,hq⟩
theorem pe_new (M:MkN X.K C)(hg:Gl X x)(hm:X.mg x=some (.ref C))(hdb:(x==("__debug__":Str))=false:=by decide):PE X (.Call (.Name x p) [] [] pos) (tNew C):=by
  intro pins s σ H Q I h
  refine wpAny_Call_Name_kw (ld_glob I hg hm ?_ hdb)
  exact PySem.W.callWith_K0 I.kIn M.kp (run_new M I h)
end
def New (H H':Hp):Hp:=fun a=>match H a with | none=>H' a | some _=>none
theorem New.of {H H':Hp}{a:Addr}{o:HO}(h:H a=none)(e:H' a=some o):New H H' a=some o:=by
  unfold New
  rw [h]
  exact e
theorem New.some {H H':Hp}{a:Addr}{o:HO}(h:New H H' a=some o):H a=none∧H' a=some o:=by
  unfold New at h
  split at h
  · rename_i e
    exact ⟨e,h⟩
  · cases h
theorem New.same {H H' H'':Hp}(s:Same H' H''):Same (New H H') (New H H''):=fun a o h=>by
  obtain ⟨h1,h2⟩:=New.some h
  exact New.of h1 (s _ _ h2)
theorem New.sub {H H':Hp}:Same (New H H') H':=fun a o h=>(New.some h).2
section
variable {K:PySem.W.Frag}{a:Addr}{xs:List V}{m:Nat}{caps:List Nat}{tt:TT}{te:TE}{σ:St}{H1:Hp}{Q:VK}
theorem compT (p:Nat→Bool)(hS:SqL K H1 a xs)(hn:xs.length≤1000000)
    (ht:∀ i x H2 (R:Bool→Hp→Prop),xs[i]?=some x→Same H1 H2→(∀ H3,Same H2 H3→R (p i) H3)→tt ((capSt m caps σ).set 0 (some x)) H2 R)
    (he:∀ x H2 (R:VK),R x H2→te ((capSt m caps σ).set 0 (some x)) H2 R)
    (hq:∀ D H2,Same H1 H2→H2 D=some (.lst (((List.range xs.length).filter p).map fun i=>xs.getD i .non))→Q (.ref D) H2):CompJ (Itl K a) m caps (gName 0) tt te σ H1 Q:=by
  refine compG (n:=xs.length) (fun D i ys H2=>i≤xs.length∧Same H1 H2∧H2 D=some (.lst ys)∧ys=((List.range i).filter p).map fun i=>xs.getD i .non) (fun D hD=>⟨Nat.zero_le _,Same.new hD,upd_same,rfl⟩) (fun D i ys H2 h=>h.1)
    (fun D ys H2 hD h=>⟨xs,h.2.1.seq hS,Nat.le_refl _⟩) (fun D i ys H2 hD hi h=>⟨xs,_,h.2.1.seq hS,List.getElem?_eq_getElem hi⟩) ?_ (fun D ys H2 hD h=>hq D H2 h.2.1 (h.2.2.2 ▸ h.2.2.1))
  rintro D i ys H2 x H3 hD hi ⟨_,s2,h2,rfl⟩ ⟨rfl,y⟩
  have hx:=y xs (s2.seq hS)
  rw [gName_ap]
  refine ht i x H3 _ hx s2 fun H4 s4=>?_
  have ll:(((List.range i).filter p).map fun i=>xs.getD i .non).length≤i:=by
    rw [List.length_map]
    exact Nat.le_trans (List.length_filter_le _ _) (by rw [List.length_range];exact Nat.le_refl _)
  have gx:xs.getD i .non=x:=by rw [List.getD_eq_getElem?_getD,hx];rfl
  split
  · rename_i e
    refine he _ _ _ (compYes hn hi ll (s4 _ _ h2) ⟨hi,(s2.trans s4).put hD,upd_same,?_⟩)
    rw [List.range_succ,List.filter_append,List.map_append]
    simp [e,hx]
  · rename_i e
    refine compNo (ys:=((List.range i).filter p).map fun i=>xs.getD i .non) hi ⟨hi,s2.trans s4,s4 _ _ h2,?_⟩
    rw [List.range_succ,List.filter_append,List.map_append]
    simp [e]
theorem compA (Rl:Nat→V→Hp→Prop)(mono:∀ i y H H',Same H H'→Rl i y H→Rl i y H')(hS:SqL K H1 a xs)(hn:xs.length≤1000000)
    (he:∀ i x H2 (R:VK),xs[i]?=some x→Same H1 H2→(∀ y H3,Same H2 H3→Rl i y (New H2 H3)→R y H3)→te ((capSt m caps σ).set 0 (some x)) H2 R)
    (hq:∀ D ys H2,H1 D=none→Same H1 H2→H2 D=some (.lst ys)→ys.length=xs.length→(∀ j y,ys[j]?=some y→Rl j y (del (New H1 H2) D))→Q (.ref D) H2):CompJ (Itl K a) m caps (gName 0) tNoTest te σ H1 Q:=by
  refine compG (n:=xs.length) (fun D i ys H2=>i≤xs.length∧Same H1 H2∧H2 D=some (.lst ys)∧ys.length=i∧∀ j y,ys[j]?=some y→Rl j y (del (New H1 H2) D)) (fun D hD=>⟨Nat.zero_le _,Same.new hD,upd_same,rfl,fun j y h=>by cases h⟩) (fun D i ys H2 h=>h.1)
    (fun D ys H2 hD h=>⟨xs,h.2.1.seq hS,Nat.le_refl _⟩) (fun D i ys H2 hD hi h=>⟨xs,_,h.2.1.seq hS,List.getElem?_eq_getElem hi⟩) ?_ (fun D ys H2 hD h=>hq D ys H2 hD h.2.1 h.2.2.1 h.2.2.2.1 h.2.2.2.2)
  rintro D i ys H2 x H3 hD hi ⟨_,s2,h2,rfl,h3⟩ ⟨rfl,y⟩
  have hx:=y xs (s2.seq hS)
  rw [gName_ap,tNoTest_ap]
  rw [if_pos rfl]
  refine he _ x H3 _ hx s2 fun z H4 s4 rz=>compYes hn hi (Nat.le_refl _) (s4 _ _ h2) ⟨hi,(s2.trans s4).put hD,upd_same,by rw [List.length_append];rfl,fun j y hj=>?_⟩
  by_cases hl:j<ys.length
  · rw [List.getElem?_append_left hl] at hj
    refine mono _ _ _ _ (fun b o hb=>?_) (h3 j y hj)
    obtain ⟨n1,e1⟩:=del_some hb
    obtain ⟨e1,e2⟩:=New.some e1
    rw [del_ne n1]
    refine New.of e1 ?_
    rw [upd_ne n1]
    exact s4 _ _ e2
  · rw [List.getElem?_append_right (by omega)] at hj
    have e0:j-ys.length=0:=by
      have:=(List.getElem?_eq_some_iff.mp hj).1
      simp at this
      omega
    rw [e0] at hj
    cases hj
    have e1:j=ys.length:=by omega
    subst e1
    refine mono _ _ _ _ (fun b o hb=>?_) rz
    obtain ⟨e1,e2⟩:=New.some hb
    have n1:b≠D:=fun z=>by rw [z,h2] at e1;cases e1
    rw [del_ne n1]
    refine New.of ?_ ?_
    · cases e:H1 b with
      | none=>rfl
      | some o=>rw [s2 _ _ e] at e1;cases e1
    · rw [upd_ne n1]
      exact e2
theorem compAR {lo:Int}{n:Nat}(Rl:Nat→V→Hp→Prop)(mono:∀ i y H H',Same H H'→Rl i y H→Rl i y H')(hn:n≤1000000)
    (he:∀ i H2 (R:VK),i<n→Same H1 H2→(∀ y H3,Same H2 H3→Rl i y (New H2 H3)→R y H3)→te ((capSt m caps σ).set 0 (some (.int (lo+i)))) H2 R)
    (hq:∀ D ys H2,H1 D=none→Same H1 H2→H2 D=some (.lst ys)→ys.length=n→(∀ j y,ys[j]?=some y→Rl j y (del (New H1 H2) D))→Q (.ref D) H2):CompJ (Itr lo n) m caps (gName 0) tNoTest te σ H1 Q:=by
  refine compG (n:=n) (fun D i ys H2=>i≤n∧Same H1 H2∧H2 D=some (.lst ys)∧ys.length=i∧∀ j y,ys[j]?=some y→Rl j y (del (New H1 H2) D)) (fun D hD=>⟨Nat.zero_le _,Same.new hD,upd_same,rfl,fun j y h=>by cases h⟩) (fun D i ys H2 h=>h.1)
    (fun D ys H2 hD h=>Nat.le_refl _) (fun D i ys H2 hD hi h=>hi) ?_ (fun D ys H2 hD h=>hq D ys H2 hD h.2.1 h.2.2.1 h.2.2.2.1 h.2.2.2.2)
  rintro D i ys H2 x H3 hD hi ⟨_,s2,h2,rfl,h3⟩ ⟨rfl,rfl⟩
  rw [gName_ap,tNoTest_ap]
  rw [if_pos rfl]
  refine he _ H3 _ hi s2 fun z H4 s4 rz=>compYes hn hi (Nat.le_refl _) (s4 _ _ h2) ⟨hi,(s2.trans s4).put hD,upd_same,by rw [List.length_append];rfl,fun j y hj=>?_⟩
  by_cases hl:j<ys.length
  · rw [List.getElem?_append_left hl] at hj
    refine mono _ _ _ _ (fun b o hb=>?_) (h3 j y hj)
    obtain ⟨n1,e1⟩:=del_some hb
    obtain ⟨e1,e2⟩:=New.some e1
    rw [del_ne n1]
    refine New.of e1 ?_
    rw [upd_ne n1]
    exact s4 _ _ e2
  · rw [List.getElem?_append_right (by omega)] at hj
    have e0:j-ys.length=0:=by
      have:=(List.getElem?_eq_some_iff.mp hj).1
      simp at this
      omega
    rw [e0] at hj
    cases hj
    have e1:j=ys.length:=by omega
    subst e1
    refine mono _ _ _ _ (fun b o hb=>?_) rz
    obtain ⟨e1,e2⟩:=New.some hb
    have n1:b≠D:=fun z=>by rw [z,h2] at e1;cases e1
    rw [del_ne n1]
    refine New.of ?_ ?_
    · cases e:H1 b with
      | none=>rfl
      | some o=>rw [s2 _ _ e] at e1;cases e1
    · rw [upd_ne n1]
      exact e2
end
end L2
namespace My
open PySem L2 BM PyProof.Rows
def top (i:Nat):Stmt:=PySem.Challenge.pw_runmarks_k66_what_holds.main.body.getD i (.Pass ⟨0,0,0,0⟩)
abbrev s_l_cell_at:Stmt:=top 11
theorem sc_l_cell_at:FnScope ["_law_script","_law_k"] ["_law_script","_law_k"] (defScope s_l_cell_at):=by walk_at "s"
abbrev s_l_mixed:Stmt:=top 12
theorem sc_l_mixed:FnScope ["_law_cell","_law_k","_law_number"] ["_law_cell","_law_k"] (defScope s_l_mixed):=by walk_at "s"
abbrev s_l_name_of:Stmt:=top 13
theorem sc_l_name_of:FnScope ["_law_letters"] ["_law_letters"] (defScope s_l_name_of):=by walk_at "s"
abbrev s_l_names:Stmt:=top 14
theorem sc_l_names:FnScope ["_law_script","_law_most","_law_x","_law_size","_law_names_here","_law_k","_law_letters","_law_j","_law_number"] ["_law_script","_law_most"] (defScope s_l_names):=by walk_at "s"
abbrev s_l_leaf:Stmt:=top 15
theorem sc_l_leaf:FnScope ["_law_cell","_law_names_here","_law_wide","_law_x","_law_y","_law_low","_law_high","_law_leaf_here"] ["_law_cell","_law_names_here","_law_wide"] (defScope s_l_leaf):=by walk_at "s"
abbrev s_l_built:Stmt:=top 16
theorem sc_l_built:FnScope ["_law_script","_law_most","_law_wide","_law_names_here","_law_items","_law_left","_law_nots","_law_cell","_law_x","_law_many","_law_deep","_law_parts"] ["_law_script","_law_most"] (defScope s_l_built):=by walk_at "s"
abbrev s_l_made:Stmt:=top 17
theorem sc_l_made:FnScope ["_law_tree","_law_parts","_law_found"] ["_law_tree"] (defScope s_l_made):=by walk_at "s"
abbrev s_l_holds:Stmt:=top 18
theorem sc_l_holds:FnScope ["_law_tree","_law_values_here"] ["_law_tree","_law_values_here"] (defScope s_l_holds):=by walk_at "s"
abbrev s_l_numbers_in:Stmt:=top 19
theorem sc_l_numbers_in:FnScope ["_law_tree","_law_found","_law_part"] ["_law_tree"] (defScope s_l_numbers_in):=by walk_at "s"
abbrev s_l_values:Stmt:=top 20
theorem sc_l_values:FnScope ["_law_names_here","_law_numbers","_law_cell","_law_values_here","_law_k","_law_x","_law_number"] ["_law_names_here","_law_numbers","_law_cell"] (defScope s_l_values):=by walk_at "s"
abbrev s_law:Stmt:=top 21
theorem sc_law:FnScope ["_law_script","_law_tree","_law_names_here","_law_question","_law_numbers","_law_rows","_law_values_here","_law_handed","_law_found"] ["_law_script"] (defScope s_law):=by walk_at "s"
abbrev s_Every_holds:Stmt:=inClass (top 4) 0
theorem sc_Every_holds:FnScope ["self","values"] ["self","values"] (defScope s_Every_holds):=by walk_at "s"
abbrev s_Nobody_holds:Stmt:=inClass (top 5) 0
theorem sc_Nobody_holds:FnScope ["self","values"] ["self","values"] (defScope s_Nobody_holds):=by walk_at "s"
abbrev s_Within___init__:Stmt:=inClass (top 6) 0
theorem sc_Within___init__:FnScope ["self","name","low","high"] ["self","name","low","high"] (defScope s_Within___init__):=by walk_at "s"
abbrev s_Within_holds:Stmt:=inClass (top 6) 2
theorem sc_Within_holds:FnScope ["self","values"] ["self","values"] (defScope s_Within_holds):=by walk_at "s"
abbrev s_Opposite___init__:Stmt:=inClass (top 7) 0
theorem sc_Opposite___init__:FnScope ["self","one"] ["self","one"] (defScope s_Opposite___init__):=by walk_at "s"
abbrev s_Opposite_holds:Stmt:=inClass (top 7) 2
theorem sc_Opposite_holds:FnScope ["self","values"] ["self","values"] (defScope s_Opposite_holds):=by walk_at "s"
abbrev s_AllOf___init__:Stmt:=inClass (top 8) 0
theorem sc_AllOf___init__:FnScope ["self","parts"] ["self","parts"] (defScope s_AllOf___init__):=by walk_at "s"
abbrev s_AllOf_holds:Stmt:=inClass (top 8) 2
theorem sc_AllOf_holds:FnScope ["self","values"] ["self","values"] (defScope s_AllOf_holds):=by walk_at "s"
abbrev s_OneOf___init__:Stmt:=inClass (top 9) 0
theorem sc_OneOf___init__:FnScope ["self","parts"] ["self","parts"] (defScope s_OneOf___init__):=by walk_at "s"
abbrev s_OneOf_holds:Stmt:=inClass (top 9) 2
theorem sc_OneOf_holds:FnScope ["self","values"] ["self","values"] (defScope s_OneOf_holds):=by walk_at "s"
structure Blt (mg:Str→Option Value):Prop where
  len:mg "len"=none
  range:mg "range"=none
  isi:mg "isinstance"=none
  int:mg "int"=none
  bool:mg "bool"=none
  lst:mg "list"=none
  min:mg "min"=none
  max:mg "max"=none
  dct:mg "dict"=none
  any:mg "any"=none
  all:mg "all"=none
structure CD_Every (K:PySem.W.Frag)(mg:Str→Option Value)(C:Addr):Prop where
  at_:mg "Every"=some (.ref C)
  c:Cls K C
  m_holds:MDefAt K C "holds" "Every.holds" s_Every_holds ["self","values"]
  new:MkN K C
structure CD_Nobody (K:PySem.W.Frag)(mg:Str→Option Value)(C:Addr):Prop where
  at_:mg "Nobody"=some (.ref C)
  c:Cls K C
  m_holds:MDefAt K C "holds" "Nobody.holds" s_Nobody_holds ["self","values"]
  new:MkN K C
structure CD_Within (K:PySem.W.Frag)(mg:Str→Option Value)(C:Addr):Prop where
  at_:mg "Within"=some (.ref C)
  c:Cls K C
  init:MakerAt K C "Within.__init__" s_Within___init__ ["self","name","low","high"]
  m_holds:MDefAt K C "holds" "Within.holds" s_Within_holds ["self","values"]
  n_name:NoAttr K C "name"
  n_low:NoAttr K C "low"
  n_high:NoAttr K C "high"
structure CD_Opposite (K:PySem.W.Frag)(mg:Str→Option Value)(C:Addr):Prop where
  at_:mg "Opposite"=some (.ref C)
  c:Cls K C
  init:MakerAt K C "Opposite.__init__" s_Opposite___init__ ["self","one"]
  m_holds:MDefAt K C "holds" "Opposite.holds" s_Opposite_holds ["self","values"]
  n_one:NoAttr K C "one"
structure CD_AllOf (K:PySem.W.Frag)(mg:Str→Option Value)(C:Addr):Prop where
  at_:mg "AllOf"=some (.ref C)
  c:Cls K C
  init:MakerAt K C "AllOf.__init__" s_AllOf___init__ ["self","parts"]
  m_holds:MDefAt K C "holds" "AllOf.holds" s_AllOf_holds ["self","values"]
  n_parts:NoAttr K C "parts"
structure CD_OneOf (K:PySem.W.Frag)(mg:Str→Option Value)(C:Addr):Prop where
  at_:mg "OneOf"=some (.ref C)
  c:Cls K C
  init:MakerAt K C "OneOf.__init__" s_OneOf___init__ ["self","parts"]
  m_holds:MDefAt K C "holds" "OneOf.holds" s_OneOf_holds ["self","values"]
  n_parts:NoAttr K C "parts"
local macro_rules | `(tactic| walk_at "vc")=>`(tactic| ((try dsimp only [tSeq_ap,tNext_ap,tAsg_ap,gName_ap,tVar_ap,tC_ap,tOp_ap,tUn_ap,rI_ap,rI0_ap,rU_ap,rEq_ap,rNe_ap,tRet_ap,tDrop_ap,tIfS_ap,tTest_ap,tB_ap,tAnd_ap,tOr_ap,tNot_ap,tNotV_ap,tCall_ap,tNil_ap,tCons_ap,tTup_ap,tLst_ap,tCB_ap,tBM_ap,tBM0_ap,rIxL_ap,rIxT_ap,rIxS_ap,rAppend_ap,rCat_ap,iRng1_ap,iList_ap,tDGet_ap,sDPut_ap,tChain_ap,rClear_ap,tNoTest_ap,tFor_ap,tComp_ap,rLen_ap,rListOf_ap,rIn_ap,tDNewK_ap,tMeD_ap,rAll_ap,rAny_ap,tNew_ap,rDictOf_ap,rNeKS_ap,tMake_ap,tFld_ap,sFld_ap,tSl_ap,tNoPart_ap,tPart_ap,rSlL_ap,L2.start,capSt]); (try simp only [tSeq_ap,tNext_ap,tAsg_ap,gName_ap,tVar_ap,tC_ap,tOp_ap,tUn_ap,rI_ap,rI0_ap,rU_ap,rEq_ap,rNe_ap,scal_ii,scal_bb,scal_ss,tRet_ap,tDrop_ap,tIfS_ap,tTest_ap,tB_ap,tAnd_ap,tOr_ap,tNot_ap,tNotV_ap,tCall_ap,tNil_ap,tCons_ap,tTup_ap,tLst_ap,tCB_ap,tBM_ap,tBM0_ap,tyV_int,tyV_list,rIxL_ap,rIxT_ap,rIxS_ap,rAppend_ap,rCat_ap,iRng1_ap,iList_ap,tDGet_ap,sDPut_ap,tChain_ap,rClear_ap,tNoTest_ap,rIsi_blb,tFor_ap,tComp_ap,rLen_ap,rListOf_ap,rIn_ap,tDNewK_ap,tMeD_ap,rAll_ap,rAny_ap,tNew_ap,rDictOf_ap,rNeKS_ap,tCBK,rMaxD,tMake_ap,tFld_ap,sFld_ap,tSl_ap,tNoPart_ap,tPart_ap,rSlL_ap,tyV_str,CDiv,CMul,CPow,CShl,L2.start,capSt,List.map_cons,List.map_nil,List.length_cons,List.length_nil,List.append_nil,List.nil_append,List.cons_append,List.getElem?_cons_zero,List.getElem?_cons_succ,List.set_cons_zero,List.set_cons_succ,List.getD_cons_zero,List.getD_cons_succ,rep0,rep1,rep2,rep3,rep4,rep5,rep6,rep7,rep8,rep9,rep10,rep11,Nat.reduceAdd,Nat.reduceSub,Int.reduceLT,Int.reduceLE,Int.reducePow,Int.reduceNeg,Int.reduceMul,Int.reduceAdd,Int.reduceSub,Int.reduceToNat,Int.reduceEq,reduceIte,Option.some.injEq,V.int.injEq,V.bl.injEq,V.ref.injEq,V.str.injEq,V.ty.injEq,List.cons.injEq,exists_and_left,exists_eq_left,exists_eq_left',exists_eq_right,exists_eq',exists_eq,and_true,true_and,Int.zero_add,decide_eq_true_eq,Bool.not_eq_true',decide_eq_false_iff_not,if_true,if_false,Bool.false_eq_true,Bool.true_eq_false,ite_not,not_true_eq_false,not_false_eq_true,Bool.not_true,Bool.not_false,decide_true,decide_false,or_true,true_or,reduceCtorEq,false_and,and_false,exists_false,false_or,or_false])))
def mixI (c k:Int):Int:=((c*48271+k*7919+104729)%2147483647)*((c*48271+k*7919+104729)%2147483647)%2147483629
def spMixed:Sp:=fun vs H Q _=>∃ c k:Int,vs=[.int c,.int k]∧Q (.int (mixI c k)) H
section
variable {P:Program}{w:World}{K:PySem.W.Frag}{mg:Str→Option Value}{base:Heap}
theorem ok_mixed (d:DefAt K mg "_law_mixed" s_l_mixed ["_law_cell","_law_k"]):FnAt P w K mg base "_law_mixed" ["_law_cell","_law_k"] 1 spMixed:=by
  refine FnAt.of d sc_l_mixed (fun vs H Q E h=>?_) (fun f cdv A outer s H vs Q E hr h=>?_)
  · obtain ⟨c,k,rfl,_⟩:=h
    rfl
  obtain ⟨c,k,rfl,q⟩:=h
  refine ⟨_,(pss_cons (ps_set (i:=2) sc_l_mixed.nd rfl (by walk_at "l") (pe_op op_mod (pe_op op_add (pe_op op_add (pe_op op_mul (pv 0) pe_int) (pe_op op_mul (pv 1) pe_int)) pe_int) pe_int))
      (pss_one (ps_ret (pe_op op_mod (pe_op op_mul (pv 2) (pv 2)) pe_int)))),?_⟩
  walk_at "vc"
  have h1:=Int.emod_nonneg (c*48271+k*7919+104729) (b:=2147483647) (by decide)
  have h2:=Int.emod_lt_of_pos (c*48271+k*7919+104729) (b:=2147483647) (by decide)
  exact ⟨.inl ⟨by omega,by omega⟩,q⟩
end
def spCell (K:PySem.W.Frag):Sp:=fun vs H Q _=>∃ (a:Addr) (ns:List Int) (k:Nat),vs=[.ref a,.int k]∧SqL K H a (ns.map V.int)∧Q (.int (ns.getD k 0)) H
section
variable {P:Program}{w:World}{K:PySem.W.Frag}{mg:Str→Option Value}{base:Heap}
theorem ok_cell_at (B:Blt mg)(d:DefAt K mg "_law_cell_at" s_l_cell_at ["_law_script","_law_k"]):FnAt P w K mg base "_law_cell_at" ["_law_script","_law_k"] 1 (spCell K):=by
  refine FnAt.of d sc_l_cell_at (fun vs H Q E h=>?_) (fun f cdv A outer s H vs Q E hr h=>?_)
  · obtain ⟨a,ns,k,rfl,_⟩:=h
    rfl
  obtain ⟨a,ns,k,rfl,hS,q⟩:=h
  refine ⟨_,(pss_cons (ps_if (pt_cmpR op_lt (pv 1) (pe_callB (call_lenK K) rfl B.len PySem.boot_len (pa_cons (pv 0) pa_nil)) (nomark _)) (pss_one (ps_ret (pe_ix (ix_listK K) (pv 0) (pv 1) (fun _ _=>rfl)))) pss_nil)
      (pss_one (ps_ret pe_int))),?_⟩
  walk_at "vc"
  refine ⟨_,.inl hS,?_⟩
  rw [List.length_map]
  by_cases hk:k<ns.length
  · rw [if_pos (by omega)]
    refine ⟨_,hS,.int (ns.getD k 0),atI_nat ?_,q⟩
    rw [List.getElem?_map,List.getElem?_eq_getElem hk,List.getD_eq_getElem?_getD,List.getElem?_eq_getElem hk]
    rfl
  · rw [if_neg (by omega)]
    have e:ns.getD k 0=0:=by rw [List.getD_eq_getElem?_getD,List.getElem?_eq_none (by omega)];rfl
    rw [e] at q
    exact q
end
abbrev letS:Str:=Str.ofString "abcdefghijklmnopqrstuvwxyz"
theorem small5 {n:Nat}(h:n≤100000):n≤sizeLine:=Nat.le_trans h (by decide)
theorem str_app (a b:Str):(a++b).length=a.length+b.length:=by
  show (a.cps++b.cps).size=a.cps.size+b.cps.size
  exact Array.size_append
theorem atI_in {xs:List Nat}{i:Int}(h0:0≤i)(h1:i<(xs.length:Int)):∃ c,atI xs i=some c:=by
  obtain ⟨n,rfl⟩:=Int.eq_ofNat_of_zero_le h0
  have h:n<xs.length:=by omega
  exact ⟨xs[n],atI_nat (List.getElem?_eq_getElem h)⟩
theorem let26:letS.cps.toList.length=26:=by decide +kernel
def ws8:List V:=[.str (Str.ofString "and"),.str (Str.ofString "or"),.str (Str.ofString "not"),.str (Str.ofString "all"),.str (Str.ofString "none"),.str (Str.ofString "is"),.str (Str.ofString "from"),.str (Str.ofString "to")]
theorem flat8:ws8.all flatV=true:=by decide
def nmOf (w:Str):Str:=if inV (.str w) ws8=true then w++Str.ofString "x" else w
def spNmOf:Sp:=fun vs H Q _=>∃ w:Str,vs=[.str w]∧w.length≤1000∧∀ H',Same H H'→Q (.str (nmOf w)) H'
section
variable {P:Program}{w:World}{K:PySem.W.Frag}{mg:Str→Option Value}{base:Heap}
theorem ok_name_of (B:Blt mg)(d:DefAt K mg "_law_name_of" s_l_name_of ["_law_letters"]):FnAt P w K mg base "_law_name_of" ["_law_letters"] 1 spNmOf:=by
  refine FnAt.of d sc_l_name_of (fun vs H Q E h=>?_) (fun f cdv A outer s H vs Q E hr h=>?_)
  · obtain ⟨x,rfl,_⟩:=h
    rfl
  obtain ⟨x,rfl,hl,q⟩:=h
  refine ⟨_,(pss_cons (ps_if (pt_cmpR (op_inK K) (pv 0) (pe_lst (pa_cons pe_str (pa_cons pe_str (pa_cons pe_str (pa_cons pe_str (pa_cons pe_str (pa_cons pe_str (pa_cons pe_str (pa_cons pe_str pa_nil))))))))) (by with_unfolding_all rfl)) (pss_one (ps_ret (pe_op op_add_str (pv 0) pe_str))) pss_nil)
      (pss_one (ps_ret (pv 0)))),?_⟩
  walk_at "vc"
  refine ⟨by decide,fun p hp=>⟨ws8,.inl (SqL.of (upd_same)),rfl,flat8,?_⟩⟩
  have q:=q _ (Same.new (o:=.lst ws8) hp)
  unfold nmOf at q
  by_cases c:inV (.str x) ws8=true
  · rw [if_pos c] at q ⊢
    exact ⟨small5 (by rw [show (Str.ofString "x").length=1 by decide +kernel];omega),q⟩
  · rw [if_neg c] at q ⊢
    exact q
end
def lwJ (x:Int)(size k j:Nat):Int:=(x/(j+2)+5*j+k*(if (j:Int)=x/64%size then 1 else 0))%26
def sgS (n:Int):Str:=⟨#[(atI letS.cps.toList n).getD 0]⟩
def lwS (x:Int)(size k:Nat):Nat→Str
  | 0=>Str.ofString ""
  | j+1=>lwS x size k j++sgS (lwJ x size k j)
theorem lwS_len (x:Int)(size k:Nat):∀ j,(lwS x size k j).length=j
  | 0=>rfl
  | j+1=>by
    show (_++sgS _).length=_
    rw [str_app,lwS_len x size k j]
    rfl
def nmK (x:Int)(size k:Nat):Str:=nmOf (lwS x size k size)
def nmsX (x:Int)(m:Int):Nat:=1+(x%m).toNat
def nms (ns:List Int)(m:Int):List Str:=(List.range 3).map fun k=>nmK (mixI (ns.getD 0 0) 0) (nmsX (mixI (ns.getD 0 0) 0) m) k
def spNames (K:PySem.W.Frag):Sp:=fun vs H Q _=>∃ (a:Addr) (ns:List Int) (m:Int),vs=[.ref a,.int m]∧SqL K H a (ns.map V.int)∧0<m∧m≤8∧∀ p H',Same H H'→H' p=some (.lst ((nms ns m).map V.str))→Q (.ref p) H'
structure NmI (a p:Addr)(m x:Int)(size:Nat)(H:Hp)(k:Nat)(σ:L2.St)(H':Hp):Prop where
  ex:∃ v5 v6 v7 v8,σ=[some (.ref a),some (.int m),some (.int x),some (.int size),some (.ref p),v5,v6,v7,v8]
  sm:Same H H'
  hp:H' p=some (.lst ((List.range k).map fun i=>V.str (nmK x size i)))
structure LwI (a p:Addr)(m x:Int)(size k:Nat)(H:Hp)(j:Nat)(σ:L2.St)(H':Hp):Prop where
  ex:∃ v7 v8,σ=[some (.ref a),some (.int m),some (.int x),some (.int size),some (.ref p),some (.int k),some (.str (lwS x size k j)),v7,v8]
  hp:H'=H
section
variable {P:Program}{w:World}{K:PySem.W.Frag}{mg:Str→Option Value}{base:Heap}
theorem ok_names (B:Blt mg)(h_l_mixed:FnAt P w K mg base "_law_mixed" ["_law_cell","_law_k"] 1 spMixed)(h_l_cell_at:FnAt P w K mg base "_law_cell_at" ["_law_script","_law_k"] 1 (spCell K))(h_l_name_of:FnAt P w K mg base "_law_name_of" ["_law_letters"] 1 spNmOf)(d:DefAt K mg "_law_names" s_l_names ["_law_script","_law_most"]):FnAt P w K mg base "_law_names" ["_law_script","_law_most"] 2 (spNames K):=by
  refine FnAt.of d sc_l_names (fun vs H Q E h=>?_) (fun f cdv A outer s H vs Q E hr h=>?_)
  · obtain ⟨a,ns,m,rfl,_⟩:=h
    rfl
  obtain ⟨a,ns,m,rfl,hS,m0,m1,q⟩:=h
  refine ⟨_,(pss_cons (ps_set (i:=2) sc_l_names.nd rfl (by walk_at "l") (pe_callF h_l_mixed (hr.mono (by decide)) rfl (pa_cons (pe_callF h_l_cell_at (hr.mono (by decide)) rfl (pa_cons (pv 0) (pa_cons pe_int pa_nil))) (pa_cons pe_int pa_nil))))
      (pss_cons (ps_set (i:=3) sc_l_names.nd rfl (by walk_at "l") (pe_op op_add pe_int (pe_op op_mod (pv 2) (pv 1))))
      (pss_cons (ps_set (i:=4) sc_l_names.nd rfl (by walk_at "l") (pe_lst pa_nil))
      (pss_cons (ps_for PassesOwn.never rfl (pi_range1 rfl B.range (pa_cons pe_int pa_nil)) (pg_name (i:=5) sc_l_names.nd rfl (by walk_at "l")) (pss_cons (ps_set (i:=6) sc_l_names.nd rfl (by walk_at "l") pe_str)
      (pss_cons (ps_for PassesOwn.never rfl (pi_range1 rfl B.range (pa_cons (pv 3) pa_nil)) (pg_name (i:=7) sc_l_names.nd rfl (by walk_at "l")) (pss_cons (ps_set (i:=8) sc_l_names.nd rfl (by walk_at "l") (pe_op op_add (pe_op op_add (pe_op op_fdiv (pv 2) (pe_op op_add (pv 7) pe_int)) (pe_op op_mul pe_int (pv 7))) (pe_op op_mul (pv 5) (pe_callTy call_int1 rfl B.int boot_int (pa_cons (pe_cmpR op_eq (pv 7) (pe_op op_mod (pe_op op_fdiv (pv 2) pe_int) (pv 3)) (nomark _)) pa_nil)))))
      (pss_one (ps_set (i:=6) sc_l_names.nd rfl (by walk_at "l") (pe_op op_add_str (pv 6) (pe_ix ix_str pe_str (pe_op op_mod (pv 8) pe_int) (fun _ _=>rfl)))))))
      (pss_one (ps_expr (pe_bmK K PySem.F.plainAttrs_list PySem.F.slot_list_append PySem.F.type_list_append mt_append (pv 4) (pa_cons (pe_callF h_l_name_of (hr.mono (by decide)) rfl (pa_cons (pv 6) pa_nil)) pa_nil)))))))
      (pss_one (ps_ret (pv 4))))))),?_⟩
  walk_at "vc"
  refine ⟨a,ns,0,rfl,hS,⟨_,_,rfl,?_⟩⟩
  refine ⟨_,rfl,m0,by decide,fun p hp=>?_⟩
  generalize ex:mixI (ns.getD 0 0) 0=x
  have es:(1:Int)+x%m=(nmsX x m:Int):=by
    have:=Int.emod_nonneg x (b:=m) (by omega)
    unfold nmsX
    omega
  have hz:nmsX x m≤8:=by
    have:=Int.emod_lt_of_pos x (b:=m) m0
    have:=Int.emod_nonneg x (b:=m) (by omega)
    unfold nmsX
    omega
  have hz1:1≤nmsX x m:=by unfold nmsX;omega
  rw [es]
  generalize ez:nmsX x m=size at hz hz1
  refine loopR (NmI a p m x size H) ⟨⟨_,_,_,_,rfl⟩,Same.new hp,upd_same⟩ ?_ ?_
  · rintro k σ H1 hk ⟨⟨v5,v6,v7,v8,rfl⟩,sm,hp1⟩
    walk_at "vc"
    refine ⟨by omega,by omega,?_⟩
    rw [Int.toNat_natCast]
    refine loopR (LwI a p m x size k H1) ⟨⟨_,_,rfl⟩,rfl⟩ ?_ ?_
    · rintro j σ H2 hj ⟨⟨v7,v8,rfl⟩,rfl⟩
      walk_at "vc"
      have ak:∃ c,atI letS.cps.toList (lwJ x size k j)=some c:=atI_in (Int.emod_nonneg _ (by decide)) (by rw [let26];exact Int.emod_lt_of_pos _ (by decide))
      obtain ⟨c,hc⟩:=ak
      have l1:(⟨#[c]⟩:Str).length=1:=rfl
      refine ⟨⟨by omega,by omega⟩,by omega,.inl ⟨by omega,by omega⟩,by decide +kernel,c,hc,small5 (by rw [l1,lwS_len];omega),?_⟩
      rw [show lwS x size k j++⟨#[c]⟩=lwS x size k (j+1) by show _=_++sgS _;unfold sgS;rw [hc];rfl]
      exact ⟨⟨_,_,rfl⟩,rfl⟩
    · rintro σ H2 ⟨⟨v7,v8,rfl⟩,rfl⟩
      walk_at "vc"
      refine ⟨⟨_,SqL.of hp1⟩,_,rfl,by rw [lwS_len];omega,fun H3 s3=>⟨_,s3 _ _ hp1,small5 (by rw [List.length_map,List.length_range];omega),⟨⟨_,_,_,_,rfl⟩,(sm.trans s3).put hp,?_⟩⟩⟩
      rw [upd_same,List.range_succ,List.map_append]
      rfl
  · rintro σ H1 ⟨⟨v5,v6,v7,v8,rfl⟩,sm,hp1⟩
    walk_at "vc"
    refine q _ _ sm ?_
    unfold nms
    rw [ex,ez,List.map_map]
    exact hp1
end
mutual
inductive T where
  | ev | no | inn (x:Str) (lo hi:Int) | opp (t:T) | al (ts:Ts) | on (ts:Ts)
inductive Ts where
  | nil | cons (t:T) (r:Ts)
end
mutual
def T.dep:T→Nat
  | .opp t=>t.dep+1
  | .al ts=>ts.dep+1
  | .on ts=>ts.dep+1
  | _=>0
def Ts.dep:Ts→Nat
  | .nil=>0
  | .cons t r=>Nat.max t.dep r.dep
end
def Ts.toL:Ts→List T
  | .nil=>[]
  | .cons t r=>t::r.toL
mutual
def T.ok (N:List Str):T→Prop
  | .inn x _ _=>x∈N
  | .opp t=>t.ok N
  | .al ts=>ts.toL.length≤1000∧ts.ok N
  | .on ts=>ts.toL.length≤1000∧ts.ok N
  | _=>True
def Ts.ok (N:List Str):Ts→Prop
  | .nil=>True
  | .cons t r=>t.ok N∧r.ok N
end
mutual
def TrAt (K:PySem.W.Frag)(H:Hp):T→V→Prop
  | .ev,v=>∃ p,v=.ref p∧SqT K H p [.str (Str.ofString "all")]
  | .no,v=>∃ p,v=.ref p∧SqT K H p [.str (Str.ofString "none")]
  | .inn x lo hi,v=>∃ p,v=.ref p∧SqT K H p [.str (Str.ofString "in"),.str x,.int lo,.int hi]
  | .opp t,v=>∃ p u,v=.ref p∧SqT K H p [.str (Str.ofString "not"),u]∧TrAt K H t u
  | .al ts,v=>∃ p l us,v=.ref p∧SqT K H p [.str (Str.ofString "and"),.ref l]∧SqL K H l us∧TrsAt K H ts us
  | .on ts,v=>∃ p l us,v=.ref p∧SqT K H p [.str (Str.ofString "or"),.ref l]∧SqL K H l us∧TrsAt K H ts us
def TrsAt (K:PySem.W.Frag)(H:Hp):Ts→List V→Prop
  | .nil,us=>us=[]
  | .cons t r,us=>∃ u vs,us=u::vs∧TrAt K H t u∧TrsAt K H r vs
end
theorem sqT_same {K:PySem.W.Frag}{H H':Hp}{a:Addr}{xs:List V}(e:Same H H')(h:SqT K H a xs):SqT K H' a xs:=by
  rcases h with (h | ⟨o,h⟩) | h
  · exact .inl (.inl (e _ _ h))
  · exact .inl (.inr ⟨o,e _ _ h⟩)
  · exact .inr h
mutual
theorem TrAt.same {K:PySem.W.Frag}{H H':Hp}(e:Same H H'):∀ (t:T) {v:V},TrAt K H t v→TrAt K H' t v
  | .ev,_,h=>by
    unfold TrAt at h ⊢
    obtain ⟨p,q,r⟩:=h
    exact ⟨p,q,sqT_same e r⟩
  | .no,_,h=>by
    unfold TrAt at h ⊢
    obtain ⟨p,q,r⟩:=h
    exact ⟨p,q,sqT_same e r⟩
  | .inn _ _ _,_,h=>by
    unfold TrAt at h ⊢
    obtain ⟨p,q,r⟩:=h
    exact ⟨p,q,sqT_same e r⟩
  | .opp t,_,h=>by
    unfold TrAt at h ⊢
    obtain ⟨p,u,q,r,z⟩:=h
    exact ⟨p,u,q,sqT_same e r,TrAt.same e t z⟩
  | .al ts,_,h=>by
    unfold TrAt at h ⊢
    obtain ⟨p,l,us,q,r,s,z⟩:=h
    exact ⟨p,l,us,q,sqT_same e r,e.seq s,TrsAt.same e ts z⟩
  | .on ts,_,h=>by
    unfold TrAt at h ⊢
    obtain ⟨p,l,us,q,r,s,z⟩:=h
    exact ⟨p,l,us,q,sqT_same e r,e.seq s,TrsAt.same e ts z⟩
theorem TrsAt.same {K:PySem.W.Frag}{H H':Hp}(e:Same H H'):∀ (ts:Ts) {us:List V},TrsAt K H ts us→TrsAt K H' ts us
  | .nil,_,h=>by
    unfold TrsAt at h ⊢
    exact h
  | .cons t r,_,h=>by
    unfold TrsAt at h ⊢
    obtain ⟨u,vs,q,a,b⟩:=h
    exact ⟨u,vs,q,TrAt.same e t a,TrsAt.same e r b⟩
end
theorem seq_step {t u:TS}{D:Ends}{σ:L2.St}{H:Hp}(h:∀ k:L2.St→Hp→Prop,(∀ σ' H',u D σ' H'→k σ' H')→t { D with nx:=k } σ H):tSeq t u D σ H:=h (u D) fun _ _ x=>x
mutual
def T.nums:T→List Int
  | .inn _ lo hi=>[lo,hi]
  | .opp t=>t.nums
  | .al ts=>ts.nums
  | .on ts=>ts.nums
  | _=>[]
def Ts.nums:Ts→List Int
  | .nil=>[]
  | .cons t r=>t.nums++r.nums
end
def spLeaf (K:PySem.W.Frag):Sp:=fun vs H Q _=>∃ (c:Int) (a:Addr) (N:List Str) (b:Bool),vs=[.int c,.ref a,.bl b]∧SqL K H a (N.map V.str)∧N.length=3∧∀ t v H',Same H H'→TrAt K (New H H') t v→t.dep≤1→t.ok N→t.nums.length≤2→Q v H'
section
variable {P:Program}{w:World}{K:PySem.W.Frag}{mg:Str→Option Value}{base:Heap}
theorem ok_leaf (B:Blt mg) (h_l_mixed:FnAt P w K mg base "_law_mixed" ["_law_cell","_law_k"] 1 spMixed) (d:DefAt K mg "_law_leaf" s_l_leaf ["_law_cell","_law_names_here","_law_wide"]):FnAt P w K mg base "_law_leaf" ["_law_cell","_law_names_here","_law_wide"] 2 (spLeaf K):=by
  refine FnAt.of d sc_l_leaf (fun vs H Q E h=>?_) (fun f cdv A outer s H vs Q E hr h=>?_)
  · obtain ⟨c,a,N,b,rfl,_⟩:=h
    rfl
  obtain ⟨c,a,N,b,rfl,hS,hN,q⟩:=h
  refine ⟨_,(pss_cons (ps_set (i:=3) sc_l_leaf.nd rfl (by walk_at "l") (pe_callF h_l_mixed (hr.mono (by decide)) rfl (pa_cons (pv 0) (pa_cons pe_int pa_nil))))
      (pss_cons (ps_set (i:=4) sc_l_leaf.nd rfl (by walk_at "l") (pe_callF h_l_mixed (hr.mono (by decide)) rfl (pa_cons (pv 0) (pa_cons pe_int pa_nil))))
      (pss_cons (ps_if (pt_cmpR op_lt (pe_op op_mod (pv 3) pe_int) pe_int (nomark _)) (pss_one (ps_ret (pe_tup (pa_cons (pe_ix (ix_listK K) (pe_lst (pa_cons pe_str (pa_cons pe_str pa_nil))) (pe_op op_mod (pv 3) pe_int) (fun _ _=>rfl)) pa_nil)))) pss_nil)
      (pss_cons (ps_set (i:=5) sc_l_leaf.nd rfl (by walk_at "l") (pe_op op_mod (pe_op op_fdiv (pv 3) pe_int) pe_int))
      (pss_cons (ps_set (i:=6) sc_l_leaf.nd rfl (by walk_at "l") (pe_op op_sub (pe_op op_add (pv 5) (pe_op op_mod (pv 4) pe_int)) pe_int))
      (pss_cons (ps_if (pt_val (pv 2)) (pss_cons (ps_set (i:=5) sc_l_leaf.nd rfl (by walk_at "l") (pe_op op_sub (pe_op op_add (pe_op op_mul (pv 5) (pe_op op_pow pe_int pe_int)) (pv 4)) (pe_op op_pow pe_int pe_int)))
      (pss_one (ps_set (i:=6) sc_l_leaf.nd rfl (by walk_at "l") (pe_op op_sub (pe_op op_add (pv 5) (pe_op op_mul (pe_callF h_l_mixed (hr.mono (by decide)) rfl (pa_cons (pv 0) (pa_cons pe_int pa_nil))) (pe_op op_pow pe_int pe_int))) pe_int)))) pss_nil)
      (pss_cons (ps_set (i:=7) sc_l_leaf.nd rfl (by walk_at "l") (pe_tup (pa_cons pe_str (pa_cons (pe_ix (ix_listK K) (pv 1) (pe_op op_mod (pe_op op_fdiv (pv 4) pe_int) pe_int) (fun _ _=>rfl)) (pa_cons (pv 5) (pa_cons (pv 6) pa_nil))))))
      (pss_cons (ps_if (pt_cmpR op_eq (pe_op op_mod (pv 3) pe_int) pe_int (nomark _)) (pss_one (ps_ret (pe_tup (pa_cons (pe_ix (ix_listK K) (pe_lst (pa_cons pe_str (pa_cons pe_str pa_nil))) (pe_op op_mod (pe_op op_fdiv (pv 3) pe_int) pe_int) (fun _ _=>rfl)) (pa_cons (pe_lst pa_nil) pa_nil))))) pss_nil)
      (pss_cons (ps_if (pt_cmpR op_eq (pe_op op_mod (pv 3) pe_int) pe_int (nomark _)) (pss_one (ps_ret (pe_tup (pa_cons (pe_ix (ix_listK K) (pe_lst (pa_cons pe_str (pa_cons pe_str pa_nil))) (pe_op op_mod (pe_op op_fdiv (pv 3) pe_int) pe_int) (fun _ _=>rfl)) (pa_cons (pe_lst (pa_cons (pv 7) pa_nil)) pa_nil))))) pss_nil)
      (pss_one (ps_ret (pv 7)))))))))))),?_⟩
  refine seq_step fun k hk=>?_
  walk_at "vc"
  refine ⟨_,_,rfl,hk _ _ (seq_step fun k hk=>?_)⟩
  walk_at "vc"
  refine ⟨_,_,rfl,hk _ _ (seq_step fun k hk=>?_)⟩
  walk_at "vc"
  by_cases c1:mixI c 2%12<2
  · rw [if_pos c1]
    refine ⟨by decide,fun p hp=>⟨_,SqL.of upd_same,?_⟩⟩
    have c0:=Int.emod_nonneg (mixI c 2) (b:=12) (by decide)
    generalize mixI c 2%12=z at c0 c1
    have zz:z=0∨z=1:=by omega
    rcases zz with rfl | rfl
    · exact ⟨_,rfl,by decide,fun p1 hp1=>q .ev _ _ ((Same.new hp).trans (Same.new hp1)) ⟨p1,rfl,.inl (.inl (New.of ((Same.new hp).free hp1) upd_same))⟩ (by decide) trivial (Nat.zero_le 2)⟩
    · exact ⟨_,rfl,by decide,fun p1 hp1=>q .no _ _ ((Same.new hp).trans (Same.new hp1)) ⟨p1,rfl,.inl (.inl (New.of ((Same.new hp).free hp1) upd_same))⟩ (by decide) trivial (Nat.zero_le 2)⟩
  rw [if_neg c1]
  refine hk _ _ (seq_step fun k hk=>?_)
  walk_at "vc"
  refine hk _ _ (seq_step fun k hk=>?_)
  walk_at "vc"
  refine hk _ _ (seq_step fun k hk=>?_)
  have go:∀ lo hi:Int,k [some (.int c),some (.ref a),some (.bl b),some (.int (mixI c 2)),some (.int (mixI c 3)),some (.int lo),some (.int hi),none] H:=fun lo hi=>by
    refine hk _ _ (seq_step fun k hk=>?_)
    walk_at "vc"
    obtain ⟨j,hj,ej⟩:∃ j:Nat,j<3∧mixI c 3/30%3=(j:Int):=⟨(mixI c 3/30%3).toNat,by omega,by omega⟩
    obtain ⟨x,hx⟩:∃ x,N[j]?=some x:=⟨_,List.getElem?_eq_getElem (by omega)⟩
    have mem:x∈N:=List.mem_of_getElem? hx
    refine ⟨_,hS,_,by rw [ej];exact atI_nat (by rw [List.getElem?_map,hx];rfl),by decide,fun p hp=>hk _ _ (seq_step fun k hk=>?_)⟩
    have sm:=Same.new (o:=.tup [.str (Str.ofString "in"),.str x,.int lo,.int hi]) hp
    have lf:TrAt K (New H (upd H p (.tup [.str (Str.ofString "in"),.str x,.int lo,.int hi]))) (.inn x lo hi) (.ref p):=⟨p,rfl,.inl (.inl (New.of hp upd_same))⟩
    generalize upd H p (.tup [.str (Str.ofString "in"),.str x,.int lo,.int hi])=H1 at sm lf ⊢
    have tw:mixI c 2/480%2=0∨mixI c 2/480%2=1:=by omega
    walk_at "vc"
    by_cases c2:mixI c 2%12=2
    · rw [if_pos c2]
      refine ⟨by decide,fun p1 h1=>⟨_,SqL.of upd_same,?_⟩⟩
      have s1:=Same.new (o:=.lst [.str (Str.ofString "and"),.str (Str.ofString "or")]) h1
      rcases tw with e | e
      · rw [e]
        refine ⟨_,rfl,by decide,fun p2 h2=>⟨by decide,fun p3 h3=>?_⟩⟩
        have s3:=Same.new (o:=.tup [.str (Str.ofString "and"),.ref p2]) h3
        exact q (.al .nil) _ _ (((sm.trans s1).trans (Same.new h2)).trans s3) ⟨p3,p2,[],rfl,.inl (.inl (New.of (((sm.trans s1).trans (Same.new h2)).free h3) upd_same)),SqL.of (New.of ((sm.trans s1).free h2) (s3 _ _ upd_same)),rfl⟩ (by decide) ⟨by decide,trivial⟩ (Nat.zero_le 2)
      · rw [e]
        refine ⟨_,rfl,by decide,fun p2 h2=>⟨by decide,fun p3 h3=>?_⟩⟩
        have s3:=Same.new (o:=.tup [.str (Str.ofString "or"),.ref p2]) h3
        exact q (.on .nil) _ _ (((sm.trans s1).trans (Same.new h2)).trans s3) ⟨p3,p2,[],rfl,.inl (.inl (New.of (((sm.trans s1).trans (Same.new h2)).free h3) upd_same)),SqL.of (New.of ((sm.trans s1).free h2) (s3 _ _ upd_same)),rfl⟩ (by decide) ⟨by decide,trivial⟩ (Nat.zero_le 2)
    rw [if_neg c2]
    refine hk _ _ (seq_step fun k hk=>?_)
    walk_at "vc"
    by_cases c3:mixI c 2%12=3
    · rw [if_pos c3]
      refine ⟨by decide,fun p1 h1=>⟨_,SqL.of upd_same,?_⟩⟩
      have s1:=Same.new (o:=.lst [.str (Str.ofString "and"),.str (Str.ofString "or")]) h1
      rcases tw with e | e
      · rw [e]
        refine ⟨_,rfl,by decide,fun p2 h2=>⟨by decide,fun p3 h3=>?_⟩⟩
        have s3:=Same.new (o:=.tup [.str (Str.ofString "and"),.ref p2]) h3
        exact q (.al (.cons (.inn x lo hi) .nil)) _ _ (((sm.trans s1).trans (Same.new h2)).trans s3) ⟨p3,p2,[.ref p],rfl,.inl (.inl (New.of (((sm.trans s1).trans (Same.new h2)).free h3) upd_same)),SqL.of (New.of ((sm.trans s1).free h2) (s3 _ _ upd_same)),⟨_,_,rfl,TrAt.same (New.same ((s1.trans (Same.new h2)).trans s3)) _ lf,rfl⟩⟩ (Nat.le_refl 1) ⟨Nat.le_of_ble_eq_true rfl,mem,trivial⟩ (Nat.le_refl 2)
      · rw [e]
        refine ⟨_,rfl,by decide,fun p2 h2=>⟨by decide,fun p3 h3=>?_⟩⟩
        have s3:=Same.new (o:=.tup [.str (Str.ofString "or"),.ref p2]) h3
        exact q (.on (.cons (.inn x lo hi) .nil)) _ _ (((sm.trans s1).trans (Same.new h2)).trans s3) ⟨p3,p2,[.ref p],rfl,.inl (.inl (New.of (((sm.trans s1).trans (Same.new h2)).free h3) upd_same)),SqL.of (New.of ((sm.trans s1).free h2) (s3 _ _ upd_same)),⟨_,_,rfl,TrAt.same (New.same ((s1.trans (Same.new h2)).trans s3)) _ lf,rfl⟩⟩ (Nat.le_refl 1) ⟨Nat.le_of_ble_eq_true rfl,mem,trivial⟩ (Nat.le_refl 2)
    rw [if_neg c3]
    refine hk _ _ ?_
    walk_at "vc"
    exact q _ _ _ sm lf (Nat.zero_le 1) mem (Nat.le_refl 2)
  walk_at "vc"
  split
  · exact ⟨by decide,⟨by omega,by omega⟩,by decide,c,4,rfl,by decide,_,rfl,go _ _⟩
  · exact go _ _
end
theorem TrsAt.len {K:PySem.W.Frag}{H:Hp}:∀ (ts:Ts) {us:List V},TrsAt K H ts us→us.length=ts.toL.length
  | .nil,us,h=>by
    unfold TrsAt at h
    rw [h]
    rfl
  | .cons t r,us,h=>by
    unfold TrsAt at h
    obtain ⟨u,vs,rfl,a,b⟩:=h
    show vs.length+1=r.toL.length+1
    rw [TrsAt.len r b]
theorem TrsAt.at {K:PySem.W.Frag}{H:Hp}:∀ (ts:Ts) {us:List V} {i:Nat} {u:V},TrsAt K H ts us→us[i]?=some u→∃ t,ts.toL[i]?=some t∧TrAt K H t u
  | .nil,us,i,u,h,e=>by
    unfold TrsAt at h
    rw [h] at e
    cases e
  | .cons t r,us,i,u,h,e=>by
    unfold TrsAt at h
    obtain ⟨u',vs,rfl,a,b⟩:=h
    cases i with
    | zero =>
      cases e
      exact ⟨t,rfl,a⟩
    | succ i=>exact TrsAt.at r b e
theorem Ts.dep_le:∀ (ts:Ts) {t:T},t∈ts.toL→t.dep≤ts.dep
  | .nil,_,h=>by cases h
  | .cons t r,x,h=>by
    show x.dep≤Nat.max t.dep r.dep
    rcases List.mem_cons.mp h with rfl | h
    · exact Nat.le_max_left _ _
    · exact Nat.le_trans (Ts.dep_le r h) (Nat.le_max_right _ _)
theorem Ts.nums_eq:∀ ts:Ts,ts.nums=ts.toL.flatMap T.nums
  | .nil=>rfl
  | .cons t r=>by
    show t.nums++r.nums=t.nums++r.toL.flatMap T.nums
    rw [Ts.nums_eq r]
def fstN (ts:Ts)(i:Nat):List Int:=(ts.toL.take i).flatMap T.nums
theorem fstN_step {ts:Ts}{i:Nat}{t:T}(h:ts.toL[i]?=some t):fstN ts (i+1)=fstN ts i++t.nums:=by
  unfold fstN
  rw [List.take_add_one,h,List.flatMap_append]
  simp
theorem fstN_le (ts:Ts)(i:Nat):(fstN ts i).length≤ts.nums.length:=by
  have:=congrArg List.length (congrArg (List.flatMap T.nums) (List.take_append_drop i ts.toL))
  rw [List.flatMap_append,List.length_append,← Ts.nums_eq] at this
  unfold fstN
  omega
theorem fstN_all (ts:Ts):fstN ts ts.toL.length=ts.nums:=by
  unfold fstN
  rw [List.take_length,Ts.nums_eq]
structure NuI (ts:Ts)(v:V)(H:Hp)(i:Nat)(σ:L2.St)(H':Hp):Prop where
  ex:∃ p v2,σ=[some v,some (.ref p),v2]∧H' p=some (.lst ((fstN ts i).map V.int))
  sm:Same H H'
def spNums (K:PySem.W.Frag)(n:Nat):Sp:=fun vs H Q _=>∃ (t:T) (v:V),vs=[v]∧TrAt K H t v∧t.dep<n∧t.nums.length≤10000∧∀ p H',Same H H'→H' p=some (.lst (t.nums.map V.int))→Q (.ref p) H'
section
variable {P:Program}{w:World}{K:PySem.W.Frag}{mg:Str→Option Value}{base:Heap}
theorem ok_nums (B:Blt mg)(d:DefAt K mg "_law_numbers_in" s_l_numbers_in ["_law_tree"]):∀ n,FnAt P w K mg base "_law_numbers_in" ["_law_tree"] (n+1) (spNums K n):=by
  intro n
  induction n with
  | zero=>exact FnAt.of d sc_l_numbers_in (fun vs H Q E h=>by obtain ⟨t,v,rfl,_⟩:=h;rfl) (fun f cdv A outer s H vs Q E hr h=>by obtain ⟨t,v,rfl,_,h,_⟩:=h;omega)
  | succ n h_l_numbers_in =>
    refine FnAt.of d sc_l_numbers_in (fun vs H Q E h=>?_) (fun f cdv A outer s H vs Q E hr h=>?_)
    · obtain ⟨t,v,rfl,_⟩:=h
      rfl
    obtain ⟨t,v,rfl,ht,hd,hl,q⟩:=h
    refine ⟨_,(pss_cons (ps_if (pt_cmpR op_eq (pe_ix (ix_tupK K) (pv 0) pe_int (fun _ _=>rfl)) pe_str (nomark _)) (pss_one (ps_ret (pe_lst (pa_cons (pe_ix (ix_tupK K) (pv 0) pe_int (fun _ _=>rfl)) (pa_cons (pe_ix (ix_tupK K) (pv 0) pe_int (fun _ _=>rfl)) pa_nil))))) pss_nil)
      (pss_cons (ps_if (pt_cmpR op_eq (pe_ix (ix_tupK K) (pv 0) pe_int (fun _ _=>rfl)) pe_str (nomark _)) (pss_one (ps_ret (pe_callF h_l_numbers_in (hr.mono (by omega)) rfl (pa_cons (pe_ix (ix_tupK K) (pv 0) pe_int (fun _ _=>rfl)) pa_nil)))) pss_nil)
      (pss_cons (ps_set (i:=1) sc_l_numbers_in.nd rfl (by walk_at "l") (pe_lst pa_nil))
      (pss_cons (ps_if (PW.pt (pw_or (pt_cmpR op_eq (pe_ix (ix_tupK K) (pv 0) pe_int (fun _ _=>rfl)) pe_str (nomark _)) (pw_or1 (pt_cmpR op_eq (pe_ix (ix_tupK K) (pv 0) pe_int (fun _ _=>rfl)) pe_str (nomark _))))) (pss_one (ps_for PassesOwn.never rfl (pi_listK K (pe_ix (ix_tupK K) (pv 0) pe_int (fun _ _=>rfl))) (pg_name (i:=2) sc_l_numbers_in.nd rfl (by walk_at "l")) (pss_one (ps_set (i:=1) sc_l_numbers_in.nd rfl (by walk_at "l") (pe_op op_cat (pv 1) (pe_callF h_l_numbers_in (hr.mono (by omega)) rfl (pa_cons (pv 2) pa_nil))))))) pss_nil)
      (pss_one (ps_ret (pv 1))))))),?_⟩
    cases t with
    | ev =>
      obtain ⟨p,rfl,hp⟩:=ht
      walk_at "vc"
      refine ⟨_,hp,_,rfl,rfl,?_⟩
      rw [if_neg (by decide +kernel)]
      refine ⟨_,hp,_,rfl,rfl,?_⟩
      rw [if_neg (by decide +kernel)]
      refine ⟨by decide,fun p1 h1=>⟨_,sqT_same (Same.new h1) hp,_,rfl,rfl,?_⟩⟩
      rw [if_neg (by decide +kernel)]
      refine ⟨_,sqT_same (Same.new h1) hp,_,rfl,rfl,?_⟩
      rw [if_neg (by decide +kernel)]
      exact q _ _ (Same.new h1) upd_same
    | no =>
      obtain ⟨p,rfl,hp⟩:=ht
      walk_at "vc"
      refine ⟨_,hp,_,rfl,rfl,?_⟩
      rw [if_neg (by decide +kernel)]
      refine ⟨_,hp,_,rfl,rfl,?_⟩
      rw [if_neg (by decide +kernel)]
      refine ⟨by decide,fun p1 h1=>⟨_,sqT_same (Same.new h1) hp,_,rfl,rfl,?_⟩⟩
      rw [if_neg (by decide +kernel)]
      refine ⟨_,sqT_same (Same.new h1) hp,_,rfl,rfl,?_⟩
      rw [if_neg (by decide +kernel)]
      exact q _ _ (Same.new h1) upd_same
    | inn x lo hi =>
      obtain ⟨p,rfl,hp⟩:=ht
      walk_at "vc"
      refine ⟨_,hp,_,rfl,rfl,?_⟩
      rw [if_pos rfl]
      exact ⟨_,hp,_,rfl,_,hp,_,rfl,by decide,fun p1 h1=>q _ _ (Same.new h1) upd_same⟩
    | opp t =>
      obtain ⟨p,u,rfl,hp,hu⟩:=ht
      walk_at "vc"
      refine ⟨_,hp,_,rfl,rfl,?_⟩
      rw [if_neg (by decide +kernel)]
      refine ⟨_,hp,_,rfl,rfl,?_⟩
      rw [if_pos rfl]
      exact ⟨_,hp,_,rfl,t,u,rfl,hu,Nat.lt_of_succ_lt_succ hd,hl,q⟩
    | al ts =>
      obtain ⟨p,l,us,rfl,hp,hl',hu⟩:=ht
      have hd:ts.dep<n:=Nat.lt_of_succ_lt_succ hd
      walk_at "vc"
      refine ⟨_,hp,_,rfl,rfl,?_⟩
      rw [if_neg (by decide +kernel)]
      refine ⟨_,hp,_,rfl,rfl,?_⟩
      rw [if_neg (by decide +kernel)]
      refine ⟨by decide,fun p1 h1=>?_⟩
      have s1:=Same.new (o:=.lst []) h1
      refine ⟨_,sqT_same s1 hp,_,rfl,rfl,?_⟩
      rw [if_pos rfl]
      have ln:=hu.len
      refine ⟨_,sqT_same s1 hp,_,rfl,l,rfl,⟨_,s1.seq hl'⟩,loopL (K:=K) (xs:=us) (NuI ts (.ref p) H) ⟨⟨_,_,rfl,upd_same⟩,s1⟩ (fun i σ H' _ h=>h.sm.seq hl') ?_ ?_⟩
      · rintro i u σ H2 hu2 ⟨⟨p2,v2,rfl,h2⟩,s2⟩
        walk_at "vc"
        obtain ⟨t,ht,htr⟩:=hu.at _ hu2
        have a1:=fstN_step ht
        have a2:=fstN_le ts (i+1)
        rw [a1,List.length_append] at a2
        have hl:ts.nums.length≤10000:=hl
        refine ⟨t,u,rfl,TrAt.same s2 _ htr,Nat.lt_of_le_of_lt (Ts.dep_le ts (List.mem_of_getElem? ht)) hd,by omega,fun p3 H3 s3 h3=>?_⟩
        refine ⟨_,rfl,_,s3 _ _ h2,_,h3,small5 (by rw [List.length_map,List.length_map];omega),fun p4 h4=>⟨⟨p4,_,rfl,?_⟩,(s2.trans s3).trans (Same.new h4)⟩⟩
        rw [upd_same,a1,List.map_append]
      · rintro σ H2 ⟨⟨p2,v2,rfl,h2⟩,s2⟩
        walk_at "vc"
        rw [ln,fstN_all] at h2
        exact q _ _ s2 h2
    | on ts =>
      obtain ⟨p,l,us,rfl,hp,hl',hu⟩:=ht
      have hd:ts.dep<n:=Nat.lt_of_succ_lt_succ hd
      walk_at "vc"
      refine ⟨_,hp,_,rfl,rfl,?_⟩
      rw [if_neg (by decide +kernel)]
      refine ⟨_,hp,_,rfl,rfl,?_⟩
      rw [if_neg (by decide +kernel)]
      refine ⟨by decide,fun p1 h1=>?_⟩
      have s1:=Same.new (o:=.lst []) h1
      refine ⟨_,sqT_same s1 hp,_,rfl,rfl,?_⟩
      rw [if_neg (by decide +kernel)]
      refine ⟨_,sqT_same s1 hp,_,rfl,rfl,?_⟩
      rw [if_pos rfl]
      have ln:=hu.len
      refine ⟨_,sqT_same s1 hp,_,rfl,l,rfl,⟨_,s1.seq hl'⟩,loopL (K:=K) (xs:=us) (NuI ts (.ref p) H) ⟨⟨_,_,rfl,upd_same⟩,s1⟩ (fun i σ H' _ h=>h.sm.seq hl') ?_ ?_⟩
      · rintro i u σ H2 hu2 ⟨⟨p2,v2,rfl,h2⟩,s2⟩
        walk_at "vc"
        obtain ⟨t,ht,htr⟩:=hu.at _ hu2
        have a1:=fstN_step ht
        have a2:=fstN_le ts (i+1)
        rw [a1,List.length_append] at a2
        have hl:ts.nums.length≤10000:=hl
        refine ⟨t,u,rfl,TrAt.same s2 _ htr,Nat.lt_of_le_of_lt (Ts.dep_le ts (List.mem_of_getElem? ht)) hd,by omega,fun p3 H3 s3 h3=>?_⟩
        refine ⟨_,rfl,_,s3 _ _ h2,_,h3,small5 (by rw [List.length_map,List.length_map];omega),fun p4 h4=>⟨⟨p4,_,rfl,?_⟩,(s2.trans s3).trans (Same.new h4)⟩⟩
        rw [upd_same,a1,List.map_append]
      · rintro σ H2 ⟨⟨p2,v2,rfl,h2⟩,s2⟩
        walk_at "vc"
        rw [ln,fstN_all] at h2
        exact q _ _ s2 h2
end
inductive Kd where | ev | no | wi | op | al | on
def T.kd:T→Kd
  | .ev=>.ev
  | .no=>.no
  | .inn _ _ _=>.wi
  | .opp _=>.op
  | .al _=>.al
  | .on _=>.on
mutual
def QAt (C:Kd→Addr)(H:Hp):T→V→Prop
  | .ev,v=>∃ p dx,v=.ref p∧H p=some (.ins (C .ev) dx [])
  | .no,v=>∃ p dx,v=.ref p∧H p=some (.ins (C .no) dx [])
  | .inn x lo hi,v=>∃ p dx,v=.ref p∧H p=some (.ins (C .wi) dx [("name",.str x),("low",.int lo),("high",.int hi)])
  | .opp t,v=>∃ p dx u,v=.ref p∧H p=some (.ins (C .op) dx [("one",u)])∧QAt C H t u
  | .al ts,v=>∃ p dx l us,v=.ref p∧H p=some (.ins (C .al) dx [("parts",.ref l)])∧H l=some (.lst us)∧QsAt C H ts us
  | .on ts,v=>∃ p dx l us,v=.ref p∧H p=some (.ins (C .on) dx [("parts",.ref l)])∧H l=some (.lst us)∧QsAt C H ts us
def QsAt (C:Kd→Addr)(H:Hp):Ts→List V→Prop
  | .nil,us=>us=[]
  | .cons t r,us=>∃ u vs,us=u::vs∧QAt C H t u∧QsAt C H r vs
end
mutual
theorem QAt.same {C:Kd→Addr}{H H':Hp}(e:Same H H'):∀ (t:T) {v:V},QAt C H t v→QAt C H' t v
  | .ev,_,h=>by
    unfold QAt at h ⊢
    obtain ⟨p,dx,q,r⟩:=h
    exact ⟨p,dx,q,e _ _ r⟩
  | .no,_,h=>by
    unfold QAt at h ⊢
    obtain ⟨p,dx,q,r⟩:=h
    exact ⟨p,dx,q,e _ _ r⟩
  | .inn _ _ _,_,h=>by
    unfold QAt at h ⊢
    obtain ⟨p,dx,q,r⟩:=h
    exact ⟨p,dx,q,e _ _ r⟩
  | .opp t,_,h=>by
    unfold QAt at h ⊢
    obtain ⟨p,dx,u,q,r,z⟩:=h
    exact ⟨p,dx,u,q,e _ _ r,QAt.same e t z⟩
  | .al ts,_,h=>by
    unfold QAt at h ⊢
    obtain ⟨p,dx,l,us,q,r,s,z⟩:=h
    exact ⟨p,dx,l,us,q,e _ _ r,e _ _ s,QsAt.same e ts z⟩
  | .on ts,_,h=>by
    unfold QAt at h ⊢
    obtain ⟨p,dx,l,us,q,r,s,z⟩:=h
    exact ⟨p,dx,l,us,q,e _ _ r,e _ _ s,QsAt.same e ts z⟩
theorem QsAt.same {C:Kd→Addr}{H H':Hp}(e:Same H H'):∀ (ts:Ts) {us:List V},QsAt C H ts us→QsAt C H' ts us
  | .nil,_,h=>by
    unfold QsAt at h ⊢
    exact h
  | .cons t r,_,h=>by
    unfold QsAt at h ⊢
    obtain ⟨u,vs,q,a,b⟩:=h
    exact ⟨u,vs,q,QAt.same e t a,QsAt.same e r b⟩
end
theorem QsAt.len {C:Kd→Addr}{H:Hp}:∀ (ts:Ts) {us:List V},QsAt C H ts us→us.length=ts.toL.length
  | .nil,us,h=>by
    unfold QsAt at h
    rw [h]
    rfl
  | .cons t r,us,h=>by
    unfold QsAt at h
    obtain ⟨u,vs,rfl,a,b⟩:=h
    show vs.length+1=r.toL.length+1
    rw [QsAt.len r b]
theorem QsAt.at {C:Kd→Addr}{H:Hp}:∀ (ts:Ts) {us:List V} {i:Nat} {u:V},QsAt C H ts us→us[i]?=some u→∃ t,ts.toL[i]?=some t∧QAt C H t u
  | .nil,us,i,u,h,e=>by
    unfold QsAt at h
    rw [h] at e
    cases e
  | .cons t r,us,i,u,h,e=>by
    unfold QsAt at h
    obtain ⟨u',vs,rfl,a,b⟩:=h
    cases i with
    | zero =>
      cases e
      exact ⟨t,rfl,a⟩
    | succ i=>exact QsAt.at r b e
theorem QsAt.mk {C:Kd→Addr}{H:Hp}:∀ (ts:Ts) {us:List V},us.length=ts.toL.length→(∀ (i:Nat) u t,us[i]?=some u→ts.toL[i]?=some t→QAt C H t u)→QsAt C H ts us
  | .nil,us,h,_=>by
    unfold QsAt
    exact List.length_eq_zero_iff.mp h
  | .cons t r,us,h,e=>by
    cases us with
    | nil=>cases h
    | cons u vs =>
      unfold QsAt
      exact ⟨u,vs,rfl,e 0 u t rfl rfl,QsAt.mk r (Nat.succ.inj h) fun i=>e (i+1)⟩
theorem QAt.obj {C:Kd→Addr}{H:Hp}:∀ (t:T) {v:V},QAt C H t v→∃ p dx fs,v=.ref p∧H p=some (.ins (C t.kd) dx fs)∧fs.lookup ("holds":Str)=none
  | .ev,_,h=>by
    unfold QAt at h
    obtain ⟨p,dx,q,r⟩:=h
    exact ⟨p,dx,_,q,r,rfl⟩
  | .no,_,h=>by
    unfold QAt at h
    obtain ⟨p,dx,q,r⟩:=h
    exact ⟨p,dx,_,q,r,rfl⟩
  | .inn _ _ _,_,h=>by
    unfold QAt at h
    obtain ⟨p,dx,q,r⟩:=h
    exact ⟨p,dx,_,q,r,rfl⟩
  | .opp t,_,h=>by
    unfold QAt at h
    obtain ⟨p,dx,u,q,r,_⟩:=h
    exact ⟨p,dx,_,q,r,rfl⟩
  | .al ts,_,h=>by
    unfold QAt at h
    obtain ⟨p,dx,l,us,q,r,_⟩:=h
    exact ⟨p,dx,_,q,r,rfl⟩
  | .on ts,_,h=>by
    unfold QAt at h
    obtain ⟨p,dx,l,us,q,r,_⟩:=h
    exact ⟨p,dx,_,q,r,rfl⟩
mutual
def T.hol (f:Str→Int):T→Bool
  | .ev=>true
  | .no=>false
  | .inn x lo hi=>decide (lo≤f x)&&decide (f x≤hi)
  | .opp t=>!t.hol f
  | .al ts=>(ts.hols f).all id
  | .on ts=>(ts.hols f).any id
def Ts.hols (f:Str→Int):Ts→List Bool
  | .nil=>[]
  | .cons t r=>t.hol f::r.hols f
end
theorem Ts.hols_eq (f:Str→Int):∀ ts:Ts,ts.hols f=ts.toL.map (T.hol f)
  | .nil=>rfl
  | .cons t r=>by
    show t.hol f::r.hols f=t.hol f::r.toL.map (T.hol f)
    rw [Ts.hols_eq f r]
theorem Ts.ok_mem {N:List Str}:∀ (ts:Ts) {t:T},ts.ok N→t∈ts.toL→t.ok N
  | .nil,_,_,h=>by cases h
  | .cons t r,x,o,h=>by
    unfold Ts.ok at o
    rcases List.mem_cons.mp h with rfl | h
    · exact o.1
    · exact Ts.ok_mem r o.2 h
def VOk (N:List Str)(kvs:List (Key × V))(f:Str→Int):Prop:=∀ x∈N,valV kvs (.inr x)=some (.int (f x))
def spHolds (C:Kd→Addr)(N:List Str)(n:Nat)(k:Kd):Sp:=fun vs H Q _=>∃ (t:T) (v:V) (d:Addr) (kvs:List (Key × V)) (f:Str→Int),vs=[v,.ref d]∧t.kd=k∧QAt C H t v∧t.ok N∧t.dep<n∧H d=some (.dK kvs)∧VOk N kvs f∧∀ H',Same H H'→Q (.bl (t.hol f)) H'
section
variable {P:Program}{w:World}{K:PySem.W.Frag}{mg:Str→Option Value}{base:Heap}{C:Kd→Addr}{N:List Str}{n:Nat}
theorem ok_h_ev (cd:CD_Every K mg (C .ev))(n:Nat):MethAt P w K mg base (C .ev) "holds" ["self","values"] (n+1) (spHolds C N n .ev):=by
  refine MethAt.of cd.c cd.m_holds sc_Every_holds (fun vs H Q E h=>?_) (fun f cdv A outer s H vs Q E hr h=>?_)
  · obtain ⟨t,v,d,kvs,f,rfl,_⟩:=h
    rfl
  obtain ⟨t,v,d,kvs,f,rfl,hk,hq,ok,hd,hv,vo,q⟩:=h
  refine ⟨_,(pss_one (ps_ret pe_bl)),?_⟩
  walk_at "vc"
  cases t<;>try cases hk
  exact q _ (Same.refl _)
theorem ok_h_no (cd:CD_Nobody K mg (C .no))(n:Nat):MethAt P w K mg base (C .no) "holds" ["self","values"] (n+1) (spHolds C N n .no):=by
  refine MethAt.of cd.c cd.m_holds sc_Nobody_holds (fun vs H Q E h=>?_) (fun f cdv A outer s H vs Q E hr h=>?_)
  · obtain ⟨t,v,d,kvs,f,rfl,_⟩:=h
    rfl
  obtain ⟨t,v,d,kvs,f,rfl,hk,hq,ok,hd,hv,vo,q⟩:=h
  refine ⟨_,(pss_one (ps_ret pe_bl)),?_⟩
  walk_at "vc"
  cases t<;>try cases hk
  exact q _ (Same.refl _)
theorem ok_h_wi (cd:CD_Within K mg (C .wi))(n:Nat):MethAt P w K mg base (C .wi) "holds" ["self","values"] (n+1) (spHolds C N n .wi):=by
  refine MethAt.of cd.c cd.m_holds sc_Within_holds (fun vs H Q E h=>?_) (fun f cdv A outer s H vs Q E hr h=>?_)
  · obtain ⟨t,v,d,kvs,f,rfl,_⟩:=h
    rfl
  obtain ⟨t,v,d,kvs,f,rfl,hk,hq,ok,hd,hv,vo,q⟩:=h
  refine ⟨_,(pss_one (ps_ret (pe_chain op_le op_le (pe_fldK K (pv 0)) (pe_dget (hu1 hr) (pv 1) (pe_fldK K (pv 0)) (fun _ _=>rfl)) (pe_fldK K (pv 0))))),?_⟩
  cases t with
  | inn x lo hi =>
    obtain ⟨p,dx,rfl,hp⟩:=hq
    walk_at "vc"
    refine ⟨_,_,_,hp,cd.c,cd.n_low,_,rfl,_,_,_,hp,cd.c,cd.n_name,_,rfl,_,.inl ⟨kvs,.inr x,.inl hv,rfl,(vo x ok).symm⟩,_,rfl,_,rfl,?_⟩
    have q:=q _ (Same.refl _)
    unfold T.hol at q
    split
    · rename_i c
      refine ⟨_,_,_,hp,cd.c,cd.n_high,_,rfl,_,rfl,_,rfl,?_⟩
      rw [decide_eq_true c] at q
      exact q
    · rename_i c
      rw [decide_eq_false c] at q
      exact q
  | _=>cases hk
variable (ih:∀ k,MethAt P w K mg base (C k) "holds" ["self","values"] (n+1) (spHolds C N n k))
include ih
theorem ok_h_op (cd:CD_Opposite K mg (C .op)):MethAt P w K mg base (C .op) "holds" ["self","values"] (n+2) (spHolds C N (n+1) .op):=by
  refine MethAt.of cd.c cd.m_holds sc_Opposite_holds (fun vs H Q E h=>?_) (fun f cdv A outer s H vs Q E hr h=>?_)
  · obtain ⟨t,v,d,kvs,f,rfl,_⟩:=h
    rfl
  obtain ⟨t,v,d,kvs,f,rfl,hk,hq,ok,hd,hv,vo,q⟩:=h
  refine ⟨_,(pss_one (ps_ret (pe_not (pe_meD (P:=P) (w:=w) (K:=K) (mg:=mg) (base:=base) (n+1) (hr.mono (by omega)) (pe_fldK K (pv 0)) (pa_cons (pv 1) pa_nil))))),?_⟩
  cases t with
  | opp t =>
    obtain ⟨p,dx,u,rfl,hp,hu⟩:=hq
    obtain ⟨p1,dx1,fs,rfl,h1,lk⟩:=QAt.obj t hu
    walk_at "vc"
    refine ⟨_,_,_,hp,cd.c,cd.n_one,_,rfl,p1,rfl,_,_,_,h1,lk,_,_,ih t.kd,t,_,d,kvs,f,rfl,rfl,hu,ok,Nat.lt_of_succ_lt_succ hd,hv,vo,fun H' s=>?_⟩
    exact ⟨_,rfl,q H' s⟩
  | _=>cases hk
theorem ok_h_al (B:Blt mg) (cd:CD_AllOf K mg (C .al)):MethAt P w K mg base (C .al) "holds" ["self","values"] (n+2) (spHolds C N (n+1) .al):=by
  refine MethAt.of cd.c cd.m_holds sc_AllOf_holds (fun vs H Q E h=>?_) (fun f cdv A outer s H vs Q E hr h=>?_)
  · obtain ⟨t,v,d,kvs,f,rfl,_⟩:=h
    rfl
  obtain ⟨t,v,d,kvs,f,rfl,hk,hq,ok,hd,hv,vo,q⟩:=h
  refine ⟨_,(pss_one (ps_ret (pe_callB (call_allK K) rfl B.all boot_allB (pa_cons (pe_comp ["part"] [1] rfl (pi_listK K (pe_fldK K (pv 0))) (fun _ _ _ _ _=>pg_name (i:=0) (by show List.Nodup (["part","values"]:List Str);decide +kernel) rfl (Or.inl rfl)) (fun _ _ _ _ _=>pts_nil) (fun _ _ _ _ _=>(pe_meD (P:=P) (w:=w) (K:=K) (mg:=mg) (base:=base) (n+1) (hr.mono (by omega)) (pv 0) (pa_cons (pv 1) pa_nil))) ⟨⟨_,rfl,rfl,.inl rfl⟩,trivial⟩ gOwn_name) pa_nil)))),?_⟩
  cases t with
  | al ts =>
    obtain ⟨p,dx,l,us,rfl,hp,hl,hu⟩:=hq
    have dp:ts.dep<n:=Nat.lt_of_succ_lt_succ hd
    have ln:=QsAt.len ts hu
    have l0:=ok.1
    walk_at "vc"
    refine ⟨_,_,_,hp,cd.c,cd.n_parts,_,rfl,l,rfl,⟨_,SqL.of hl⟩,compA (xs:=us) (fun i y _=>y=.bl ((ts.hols f).getD i false)) (fun _ _ _ _ _ h=>h) (SqL.of hl) (by omega) (fun i x H2 R hx s2 q2=>?_) (fun D ys H2 hD s2 h2 l2 h3=>?_)⟩
    · obtain ⟨t,ht,hq⟩:=QsAt.at ts hu hx
      obtain ⟨p1,dx1,fs,rfl,h1,lk⟩:=QAt.obj t hq
      have tm:=List.mem_of_getElem? ht
      walk_at "vc"
      refine ⟨_,_,_,s2 _ _ h1,lk,_,_,ih t.kd,t,_,d,kvs,f,rfl,rfl,QAt.same s2 t hq,Ts.ok_mem ts ok.2 tm,Nat.lt_of_le_of_lt (Ts.dep_le ts tm) dp,s2 _ _ hv,vo,fun H3 s3=>q2 _ H3 s3 ?_⟩
      rw [Ts.hols_eq,List.getD_eq_getElem?_getD,List.getElem?_map,ht]
      rfl
    · have e:ys=(ts.hols f).map V.bl:=by
        refine List.ext_getElem (by rw [List.length_map,Ts.hols_eq,List.length_map,l2,ln]) fun i a1 a2=>?_
        have:=h3 i _ (List.getElem?_eq_getElem a1)
        rw [this,List.getElem_map,List.getD_eq_getElem?_getD,List.getElem?_eq_getElem (by rw [List.length_map] at a2;exact a2)]
        rfl
      refine ⟨D,rfl,_,SqL.of (e ▸ h2),?_⟩
      exact q H2 s2
  | _=>cases hk
theorem ok_h_on (B:Blt mg) (cd:CD_OneOf K mg (C .on)):MethAt P w K mg base (C .on) "holds" ["self","values"] (n+2) (spHolds C N (n+1) .on):=by
  refine MethAt.of cd.c cd.m_holds sc_OneOf_holds (fun vs H Q E h=>?_) (fun f cdv A outer s H vs Q E hr h=>?_)
  · obtain ⟨t,v,d,kvs,f,rfl,_⟩:=h
    rfl
  obtain ⟨t,v,d,kvs,f,rfl,hk,hq,ok,hd,hv,vo,q⟩:=h
  refine ⟨_,(pss_one (ps_ret (pe_callB (call_anyK K) rfl B.any boot_anyB (pa_cons (pe_comp ["part"] [1] rfl (pi_listK K (pe_fldK K (pv 0))) (fun _ _ _ _ _=>pg_name (i:=0) (by show List.Nodup (["part","values"]:List Str);decide +kernel) rfl (Or.inl rfl)) (fun _ _ _ _ _=>pts_nil) (fun _ _ _ _ _=>(pe_meD (P:=P) (w:=w) (K:=K) (mg:=mg) (base:=base) (n+1) (hr.mono (by omega)) (pv 0) (pa_cons (pv 1) pa_nil))) ⟨⟨_,rfl,rfl,.inl rfl⟩,trivial⟩ gOwn_name) pa_nil)))),?_⟩
  cases t with
  | on ts =>
    obtain ⟨p,dx,l,us,rfl,hp,hl,hu⟩:=hq
    have dp:ts.dep<n:=Nat.lt_of_succ_lt_succ hd
    have ln:=QsAt.len ts hu
    have l0:=ok.1
    walk_at "vc"
    refine ⟨_,_,_,hp,cd.c,cd.n_parts,_,rfl,l,rfl,⟨_,SqL.of hl⟩,compA (xs:=us) (fun i y _=>y=.bl ((ts.hols f).getD i false)) (fun _ _ _ _ _ h=>h) (SqL.of hl) (by omega) (fun i x H2 R hx s2 q2=>?_) (fun D ys H2 hD s2 h2 l2 h3=>?_)⟩
    · obtain ⟨t,ht,hq⟩:=QsAt.at ts hu hx
      obtain ⟨p1,dx1,fs,rfl,h1,lk⟩:=QAt.obj t hq
      have tm:=List.mem_of_getElem? ht
      walk_at "vc"
      refine ⟨_,_,_,s2 _ _ h1,lk,_,_,ih t.kd,t,_,d,kvs,f,rfl,rfl,QAt.same s2 t hq,Ts.ok_mem ts ok.2 tm,Nat.lt_of_le_of_lt (Ts.dep_le ts tm) dp,s2 _ _ hv,vo,fun H3 s3=>q2 _ H3 s3 ?_⟩
      rw [Ts.hols_eq,List.getD_eq_getElem?_getD,List.getElem?_map,ht]
      rfl
    · have e:ys=(ts.hols f).map V.bl:=by
        refine List.ext_getElem (by rw [List.length_map,Ts.hols_eq,List.length_map,l2,ln]) fun i a1 a2=>?_
        have:=h3 i _ (List.getElem?_eq_getElem a1)
        rw [this,List.getElem_map,List.getD_eq_getElem?_getD,List.getElem?_eq_getElem (by rw [List.length_map] at a2;exact a2)]
        rfl
      refine ⟨D,rfl,_,SqL.of (e ▸ h2),?_⟩
      exact q H2 s2
  | _=>cases hk
omit ih
theorem ok_holdsM (B:Blt mg)(c1:CD_Every K mg (C .ev))(c2:CD_Nobody K mg (C .no))(c3:CD_Within K mg (C .wi))(c4:CD_Opposite K mg (C .op))(c5:CD_AllOf K mg (C .al))(c6:CD_OneOf K mg (C .on)):∀ n k,MethAt P w K mg base (C k) "holds" ["self","values"] (n+1) (spHolds C N n k):=by
  intro n
  induction n with
  | zero =>
    intro k
    cases k with
    | ev=>exact ok_h_ev c1 0
    | no=>exact ok_h_no c2 0
    | wi=>exact ok_h_wi c3 0
    | op=>exact MethAt.of c4.c c4.m_holds sc_Opposite_holds (fun vs H Q E h=>by obtain ⟨t,v,d,kvs,f,rfl,_⟩:=h;rfl) (fun f cdv A outer s H vs Q E hr h=>by obtain ⟨t,v,d,kvs,f,rfl,hk,hq,ok,hd,_⟩:=h;omega)
    | al=>exact MethAt.of c5.c c5.m_holds sc_AllOf_holds (fun vs H Q E h=>by obtain ⟨t,v,d,kvs,f,rfl,_⟩:=h;rfl) (fun f cdv A outer s H vs Q E hr h=>by obtain ⟨t,v,d,kvs,f,rfl,hk,hq,ok,hd,_⟩:=h;omega)
    | on=>exact MethAt.of c6.c c6.m_holds sc_OneOf_holds (fun vs H Q E h=>by obtain ⟨t,v,d,kvs,f,rfl,_⟩:=h;rfl) (fun f cdv A outer s H vs Q E hr h=>by obtain ⟨t,v,d,kvs,f,rfl,hk,hq,ok,hd,_⟩:=h;omega)
  | succ n ih =>
    intro k
    cases k with
    | ev=>exact ok_h_ev c1 _
    | no=>exact ok_h_no c2 _
    | wi=>exact ok_h_wi c3 _
    | op=>exact ok_h_op ih c4
    | al=>exact ok_h_al ih B c5
    | on=>exact ok_h_on ih B c6
end
def Off (x:Addr)(H H':Hp):Prop:=∀ b,b≠x→H' b=H b
def spIWi (C:Kd→Addr):Sp:=fun vs H Q _=>∃ (x dx:Addr) (nm:Str) (lo hi:Int),vs=[.ref x,.str nm,.int lo,.int hi]∧H x=some (.ins (C .wi) dx [])∧∀ H',Off x H H'→H' x=some (.ins (C .wi) dx [("name",.str nm),("low",.int lo),("high",.int hi)])→Q .non H'
def spIOp (C:Kd→Addr):Sp:=fun vs H Q _=>∃ (x dx:Addr) (u:V),vs=[.ref x,u]∧H x=some (.ins (C .op) dx [])∧∀ H',Off x H H'→H' x=some (.ins (C .op) dx [("one",u)])→Q .non H'
def spIPa (C:Kd→Addr)(k:Kd):Sp:=fun vs H Q _=>∃ (x dx p:Addr) (us:List V),vs=[.ref x,.ref p]∧H x=some (.ins (C k) dx [])∧H p=some (.lst us)∧∀ l H',H l=none→Off x (upd H l (.lst us)) H'→H' x=some (.ins (C k) dx [("parts",.ref l)])→Q .non H'
section
variable {P:Program}{w:World}{K:PySem.W.Frag}{mg:Str→Option Value}{base:Heap}{C:Kd→Addr}{N:List Str}{n:Nat}
theorem ok_iWi (cd:CD_Within K mg (C .wi)):MakeAt P w K mg base "Within" (C .wi) ["self","name","low","high"] 1 (spIWi C):=by
  refine MakeAt.of cd.at_ cd.init sc_Within___init__ (fun vs H Q E h=>?_) (fun f cdv A outer s H vs Q E hr h=>?_)
  · obtain ⟨x,dx,nm,lo,hi,rfl,_⟩:=h
    rfl
  obtain ⟨x,dx,nm,lo,hi,rfl,hx,q⟩:=h
  refine ⟨_,(pss_cons (ps_fldK K (pv 0) (pv 1))
      (pss_cons (ps_fldK K (pv 0) (pv 2))
      (pss_one (ps_fldK K (pv 0) (pv 3))))),?_⟩
  walk_at "vc"
  refine ⟨_,_,_,hx,cd.c,cd.n_name,by decide,_,_,_,upd_same,cd.c,cd.n_low,by show 1<1000;decide,_,_,_,upd_same,cd.c,cd.n_high,by show 2<1000;decide,q _ (fun b nb=>?_) upd_same⟩
  rw [upd_ne nb,upd_ne nb,upd_ne nb]
theorem ok_iOp (cd:CD_Opposite K mg (C .op)):MakeAt P w K mg base "Opposite" (C .op) ["self","one"] 1 (spIOp C):=by
  refine MakeAt.of cd.at_ cd.init sc_Opposite___init__ (fun vs H Q E h=>?_) (fun f cdv A outer s H vs Q E hr h=>?_)
  · obtain ⟨x,dx,u,rfl,_⟩:=h
    rfl
  obtain ⟨x,dx,u,rfl,hx,q⟩:=h
  refine ⟨_,(pss_one (ps_fldK K (pv 0) (pv 1))),?_⟩
  walk_at "vc"
  exact ⟨_,_,_,hx,cd.c,cd.n_one,by decide,q _ (fun b nb=>upd_ne nb) upd_same⟩
theorem ok_iAl (B:Blt mg)(cd:CD_AllOf K mg (C .al)):MakeAt P w K mg base "AllOf" (C .al) ["self","parts"] 1 (spIPa C .al):=by
  refine MakeAt.of cd.at_ cd.init sc_AllOf___init__ (fun vs H Q E h=>?_) (fun f cdv A outer s H vs Q E hr h=>?_)
  · obtain ⟨x,dx,p,us,rfl,_⟩:=h
    rfl
  obtain ⟨x,dx,p,us,rfl,hx,hp,q⟩:=h
  refine ⟨_,(pss_one (ps_fldK K (pv 0) (pe_callTy (call_listK K) rfl B.lst boot_list (pa_cons (pv 1) pa_nil)))),?_⟩
  walk_at "vc"
  refine ⟨_,.inl (SqL.of hp),fun l hl=>?_⟩
  have hx2:upd H l (.lst us) x=some (.ins (C .al) dx []):=by rw [upd_ne (ne_of_none hx hl)];exact hx
  exact ⟨_,_,_,hx2,cd.c,cd.n_parts,by decide,q l _ hl (fun b nb=>upd_ne nb) upd_same⟩
theorem ok_iOn (B:Blt mg)(cd:CD_OneOf K mg (C .on)):MakeAt P w K mg base "OneOf" (C .on) ["self","parts"] 1 (spIPa C .on):=by
  refine MakeAt.of cd.at_ cd.init sc_OneOf___init__ (fun vs H Q E h=>?_) (fun f cdv A outer s H vs Q E hr h=>?_)
  · obtain ⟨x,dx,p,us,rfl,_⟩:=h
    rfl
  obtain ⟨x,dx,p,us,rfl,hx,hp,q⟩:=h
  refine ⟨_,(pss_one (ps_fldK K (pv 0) (pe_callTy (call_listK K) rfl B.lst boot_list (pa_cons (pv 1) pa_nil)))),?_⟩
  walk_at "vc"
  refine ⟨_,.inl (SqL.of hp),fun l hl=>?_⟩
  have hx2:upd H l (.lst us) x=some (.ins (C .on) dx []):=by rw [upd_ne (ne_of_none hx hl)];exact hx
  exact ⟨_,_,_,hx2,cd.c,cd.n_parts,by decide,q l _ hl (fun b nb=>upd_ne nb) upd_same⟩
def spMade (K:PySem.W.Frag)(C:Kd→Addr)(N:List Str)(n:Nat):Sp:=fun vs H Q _=>∃ (t:T) (v:V),vs=[v]∧TrAt K H t v∧t.ok N∧t.dep<n∧∀ q H',Same H H'→QAt C (New H H') t q→Q q H'
def NewAt (K:PySem.W.Frag)(mg:Str→Option Value)(x:Str)(C:Addr):Prop:=mg x=some (.ref C)∧MkN K C
theorem same2 {H:Hp}{x dx:Addr}{o o':HO}(h1:H x=none)(h2:H dx=none)(h:dx≠x):Same H (upd (upd H dx o) x o'):=(Same.new h2).trans (Same.new (by rw [upd_ne (Ne.symm h)];exact h1))
theorem same_off {H H':Hp}{x dx:Addr}{o o':HO}(h1:H x=none)(h2:H dx=none)(off:Off x (upd (upd H dx o) x o') H'):Same H H':=fun b ob e=>by
  have nb:b≠x:=ne_of_none e h1
  rw [off b nb,upd_ne nb,upd_ne (ne_of_none e h2)]
  exact e
theorem pa_off {H H':Hp}{x dx l:Addr}{us:List V}{o o':HO}(h1:H x=none)(h2:H dx=none)(hl:upd (upd H dx o) x o' l=none)(off:Off x (upd (upd (upd H dx o) x o') l (.lst us)) H'):Same H H'∧H' l=some (.lst us)∧H l=none:=by
  have nx:l≠x:=fun z=>by rw [z,upd_same] at hl;cases hl
  have nd:l≠dx:=fun z=>by rw [upd_ne nx,z,upd_same] at hl;cases hl
  rw [upd_ne nx,upd_ne nd] at hl
  refine ⟨fun b ob e=>?_,?_,hl⟩
  · have nb:b≠x:=ne_of_none e h1
    rw [off b nb,upd_ne (ne_of_none e hl),upd_ne nb,upd_ne (ne_of_none e h2)]
    exact e
  · rw [off l nx,upd_same]
theorem del_new {H H2 H5:Hp}{D:Addr}(h:∀ b o,b≠D→H2 b=some o→H5 b=some o):Same (del (New H H2) D) (New H H5):=fun b o e=>by
  obtain ⟨n,e⟩:=del_some e
  obtain ⟨e1,e2⟩:=New.some e
  exact New.of e1 (h _ _ n e2)
theorem ok_made (n_Every:NewAt K mg "Every" (C .ev))(n_Nobody:NewAt K mg "Nobody" (C .no))(h_Within:MakeAt P w K mg base "Within" (C .wi) ["self","name","low","high"] 1 (spIWi C))(h_Opposite:MakeAt P w K mg base "Opposite" (C .op) ["self","one"] 1 (spIOp C))(h_AllOf:MakeAt P w K mg base "AllOf" (C .al) ["self","parts"] 1 (spIPa C .al))(h_OneOf:MakeAt P w K mg base "OneOf" (C .on) ["self","parts"] 1 (spIPa C .on))(d:DefAt K mg "_law_made" s_l_made ["_law_tree"]):∀ n,FnAt P w K mg base "_law_made" ["_law_tree"] (n+3) (spMade K C N n):=by
  intro n
  induction n with
  | zero=>exact FnAt.of d sc_l_made (fun vs H Q E h=>by obtain ⟨t,v,rfl,_⟩:=h;rfl) (fun f cdv A outer s H vs Q E hr h=>by obtain ⟨t,v,rfl,_,_,h,_⟩:=h;omega)
  | succ n h_l_made =>
    refine FnAt.of d sc_l_made (fun vs H Q E h=>?_) (fun f cdv A outer s H vs Q E hr h=>?_)
    · obtain ⟨t,v,rfl,_⟩:=h
      rfl
    obtain ⟨t,v,rfl,ht,ok,hd,q⟩:=h
    refine ⟨_,(pss_cons (ps_if (pt_cmpR op_eq (pe_ix (ix_tupK K) (pv 0) pe_int (fun _ _=>rfl)) pe_str (nomark _)) (pss_one (ps_ret (pe_new n_Every.2 rfl n_Every.1))) pss_nil)
      (pss_cons (ps_if (pt_cmpR op_eq (pe_ix (ix_tupK K) (pv 0) pe_int (fun _ _=>rfl)) pe_str (nomark _)) (pss_one (ps_ret (pe_new n_Nobody.2 rfl n_Nobody.1))) pss_nil)
      (pss_cons (ps_if (pt_cmpR op_eq (pe_ix (ix_tupK K) (pv 0) pe_int (fun _ _=>rfl)) pe_str (nomark _)) (pss_one (ps_ret (pe_makeF h_Within (hr.mono (by omega)) rfl (pa_cons (pe_ix (ix_tupK K) (pv 0) pe_int (fun _ _=>rfl)) (pa_cons (pe_ix (ix_tupK K) (pv 0) pe_int (fun _ _=>rfl)) (pa_cons (pe_ix (ix_tupK K) (pv 0) pe_int (fun _ _=>rfl)) pa_nil)))))) pss_nil)
      (pss_cons (ps_if (pt_cmpR op_eq (pe_ix (ix_tupK K) (pv 0) pe_int (fun _ _=>rfl)) pe_str (nomark _)) (pss_one (ps_ret (pe_makeF h_Opposite (hr.mono (by omega)) rfl (pa_cons (pe_callF h_l_made (hr.mono (by omega)) rfl (pa_cons (pe_ix (ix_tupK K) (pv 0) pe_int (fun _ _=>rfl)) pa_nil)) pa_nil)))) pss_nil)
      (pss_cons (ps_setcomp (i:=1) ["_law_part"] [] sc_l_made.nd rfl (by walk_at "l") rfl (pi_listK K (pe_ix (ix_tupK K) (pv 0) pe_int (fun _ _=>rfl))) (fun _ _ _ _ _=>pg_name (i:=0) (by show List.Nodup (["_law_part"]:List Str);decide +kernel) rfl (Or.inl rfl)) (fun _ _ _ _ _=>pts_nil) (fun _ _ _ _ _=>(pe_callF h_l_made (hr.mono (by omega)) rfl (pa_cons (pv 0) pa_nil))) trivial gOwn_name)
      (pss_cons (ps_set (i:=2) sc_l_made.nd rfl (by walk_at "l") (pe_makeF h_OneOf (hr.mono (by omega)) rfl (pa_cons (pv 1) pa_nil)))
      (pss_cons (ps_if (pt_cmpR op_eq (pe_ix (ix_tupK K) (pv 0) pe_int (fun _ _=>rfl)) pe_str (nomark _)) (pss_one (ps_set (i:=2) sc_l_made.nd rfl (by walk_at "l") (pe_makeF h_AllOf (hr.mono (by omega)) rfl (pa_cons (pv 1) pa_nil)))) pss_nil)
      (pss_cons (ps_expr (pe_bm0K K PySem.F.plainAttrs_list PySem.F.slot_list_clear PySem.F.type_list_clear mt_clear (pv 1)))
      (pss_one (ps_ret (pv 2))))))))))),?_⟩
    cases t with
    | ev =>
      obtain ⟨p,rfl,hp⟩:=ht
      walk_at "vc"
      refine ⟨_,hp,_,rfl,rfl,?_⟩
      rw [if_pos rfl]
      exact fun x dx h1 h2 h3=>q _ _ (same2 h1 h2 h3) ⟨x,dx,rfl,New.of h1 upd_same⟩
    | no =>
      obtain ⟨p,rfl,hp⟩:=ht
      walk_at "vc"
      refine ⟨_,hp,_,rfl,rfl,?_⟩
      rw [if_neg (by decide +kernel)]
      refine ⟨_,hp,_,rfl,rfl,?_⟩
      rw [if_pos rfl]
      exact fun x dx h1 h2 h3=>q _ _ (same2 h1 h2 h3) ⟨x,dx,rfl,New.of h1 upd_same⟩
    | inn nm lo hi =>
      obtain ⟨p,rfl,hp⟩:=ht
      walk_at "vc"
      refine ⟨_,hp,_,rfl,rfl,?_⟩
      rw [if_neg (by decide +kernel)]
      refine ⟨_,hp,_,rfl,rfl,?_⟩
      rw [if_neg (by decide +kernel)]
      refine ⟨_,hp,_,rfl,rfl,?_⟩
      rw [if_pos rfl]
      refine ⟨_,hp,_,rfl,_,hp,_,rfl,_,hp,_,rfl,?_⟩
      refine fun x dx h1 h2 h3=>⟨x,dx,nm,lo,hi,rfl,upd_same,fun H' off hx=>⟨rfl,?_⟩⟩
      exact q _ _ (same_off h1 h2 off) ⟨x,dx,rfl,New.of h1 hx⟩
    | opp t =>
      obtain ⟨p,u,rfl,hp,hu⟩:=ht
      walk_at "vc"
      refine ⟨_,hp,_,rfl,rfl,?_⟩
      rw [if_neg (by decide +kernel)]
      refine ⟨_,hp,_,rfl,rfl,?_⟩
      rw [if_neg (by decide +kernel)]
      refine ⟨_,hp,_,rfl,rfl,?_⟩
      rw [if_neg (by decide +kernel)]
      refine ⟨_,hp,_,rfl,rfl,?_⟩
      rw [if_pos rfl]
      refine ⟨_,hp,_,rfl,t,u,rfl,hu,ok,Nat.lt_of_succ_lt_succ hd,fun v1 H1 s1 q1=>?_⟩
      refine fun x dx h1 h2 h3=>⟨x,dx,v1,rfl,upd_same,fun H' off hx=>⟨rfl,?_⟩⟩
      have s2:=same_off h1 h2 off
      refine q _ _ (s1.trans s2) ⟨x,dx,v1,rfl,New.of ?_ hx,QAt.same (New.same s2) t q1⟩
      cases e:H x with
      | none=>rfl
      | some o=>rw [s1 _ _ e] at h1;cases h1
    | al ts =>
      obtain ⟨p,l,us,rfl,hp,hl,hu⟩:=ht
      have dp:ts.dep<n:=Nat.lt_of_succ_lt_succ hd
      have ln:=TrsAt.len ts hu
      have l0:=ok.1
      walk_at "vc"
      refine ⟨_,hp,_,rfl,rfl,?_⟩
      rw [if_neg (by decide +kernel)]
      refine ⟨_,hp,_,rfl,rfl,?_⟩
      rw [if_neg (by decide +kernel)]
      refine ⟨_,hp,_,rfl,rfl,?_⟩
      rw [if_neg (by decide +kernel)]
      refine ⟨_,hp,_,rfl,rfl,?_⟩
      rw [if_neg (by decide +kernel)]
      refine ⟨_,hp,_,rfl,l,rfl,⟨_,hl⟩,compA (xs:=us) (fun i y H=>∀ t,ts.toL[i]?=some t→QAt C H t y) (fun i y H H' s h t ht=>QAt.same s t (h t ht)) hl (by omega) (fun i x H2 R hx s2 q2=>?_) (fun D ys H2 hD s2 h2 l2 h3=>?_)⟩
      · obtain ⟨t,ht,htr⟩:=TrsAt.at ts hu hx
        have tm:=List.mem_of_getElem? ht
        walk_at "vc"
        refine ⟨t,x,rfl,TrAt.same s2 t htr,Ts.ok_mem ts ok.2 tm,Nat.lt_of_le_of_lt (Ts.dep_le ts tm) dp,fun v1 H3 s3 q3=>q2 _ H3 s3 fun t' ht'=>?_⟩
        cases ht.symm.trans ht'
        exact q3
      · have qs:QsAt C (del (New H H2) D) ts ys:=QsAt.mk ts (by omega) fun i u t hu ht=>h3 i u hu t ht
        refine fun x dx h1 h2' hne=>⟨x,dx,D,ys,rfl,upd_same,?_,fun l1 H3 hl1 off hx=>⟨rfl,_,sqT_same (s2.trans (pa_off h1 h2' hl1 off).1) hp,_,rfl,rfl,?_⟩⟩
        · rw [upd_ne (ne_of_none h2 h1),upd_ne (ne_of_none h2 h2')]
          exact h2
        obtain ⟨s3,g3,n3⟩:=pa_off h1 h2' hl1 off
        have f3:=s3 _ _ h2
        rw [if_pos rfl]
        refine fun x2 dx2 k1 k2 kne=>⟨x2,dx2,D,ys,rfl,upd_same,?_,fun l2 H4 hl2 off2 hx2=>⟨rfl,.inl ⟨rfl,_,SqL.of ((pa_off k1 k2 hl2 off2).1 _ _ f3)⟩,D,rfl,_,(pa_off k1 k2 hl2 off2).1 _ _ f3,?_⟩⟩
        · rw [upd_ne (ne_of_none f3 k1),upd_ne (ne_of_none f3 k2)]
          exact f3
        obtain ⟨s4,g4,n4⟩:=pa_off k1 k2 hl2 off2
        have S:=s2.trans s3
        have hn:∀ b,H3 b=none→H b=none:=fun b hb=>by
          cases e:H b with
          | none=>rfl
          | some o=>rw [S _ _ e] at hb;cases hb
        refine q _ _ ((S.trans s4).put hD) ⟨x2,dx2,l2,ys,rfl,New.of (hn _ k1) ?_,New.of (hn _ n4) ?_,QsAt.same (del_new fun b o nb e=>?_) ts qs⟩
        · rw [upd_ne (ne_of_none f3 k1).symm]
          exact hx2
        · rw [upd_ne (ne_of_none f3 n4).symm]
          exact g4
        · rw [upd_ne nb]
          exact s4 _ _ (s3 _ _ e)
    | on ts =>
      obtain ⟨p,l,us,rfl,hp,hl,hu⟩:=ht
      have dp:ts.dep<n:=Nat.lt_of_succ_lt_succ hd
      have ln:=TrsAt.len ts hu
      have l0:=ok.1
      walk_at "vc"
      refine ⟨_,hp,_,rfl,rfl,?_⟩
      rw [if_neg (by decide +kernel)]
      refine ⟨_,hp,_,rfl,rfl,?_⟩
      rw [if_neg (by decide +kernel)]
      refine ⟨_,hp,_,rfl,rfl,?_⟩
      rw [if_neg (by decide +kernel)]
      refine ⟨_,hp,_,rfl,rfl,?_⟩
      rw [if_neg (by decide +kernel)]
      refine ⟨_,hp,_,rfl,l,rfl,⟨_,hl⟩,compA (xs:=us) (fun i y H=>∀ t,ts.toL[i]?=some t→QAt C H t y) (fun i y H H' s h t ht=>QAt.same s t (h t ht)) hl (by omega) (fun i x H2 R hx s2 q2=>?_) (fun D ys H2 hD s2 h2 l2 h3=>?_)⟩
      · obtain ⟨t,ht,htr⟩:=TrsAt.at ts hu hx
        have tm:=List.mem_of_getElem? ht
        walk_at "vc"
        refine ⟨t,x,rfl,TrAt.same s2 t htr,Ts.ok_mem ts ok.2 tm,Nat.lt_of_le_of_lt (Ts.dep_le ts tm) dp,fun v1 H3 s3 q3=>q2 _ H3 s3 fun t' ht'=>?_⟩
        cases ht.symm.trans ht'
        exact q3
      · have qs:QsAt C (del (New H H2) D) ts ys:=QsAt.mk ts (by omega) fun i u t hu ht=>h3 i u hu t ht
        refine fun x dx h1 h2' hne=>⟨x,dx,D,ys,rfl,upd_same,?_,fun l1 H3 hl1 off hx=>⟨rfl,_,sqT_same (s2.trans (pa_off h1 h2' hl1 off).1) hp,_,rfl,rfl,?_⟩⟩
        · rw [upd_ne (ne_of_none h2 h1),upd_ne (ne_of_none h2 h2')]
          exact h2
        obtain ⟨s3,g3,n3⟩:=pa_off h1 h2' hl1 off
        have f3:=s3 _ _ h2
        rw [if_neg (by decide +kernel)]
        refine ⟨.inl ⟨rfl,_,SqL.of f3⟩,D,rfl,_,f3,?_⟩
        have hn:∀ b,H2 b=none→H b=none:=fun b hb=>by
          cases e:H b with
          | none=>rfl
          | some o=>rw [s2 _ _ e] at hb;cases hb
        refine q _ _ ((s2.trans s3).put hD) ⟨x,dx,l1,ys,rfl,New.of (hn _ h1) ?_,New.of (hn _ n3) ?_,QsAt.same (del_new fun b o nb e=>?_) ts qs⟩
        · rw [upd_ne (ne_of_none h2 h1).symm]
          exact hx
        · rw [upd_ne (ne_of_none h2 n3).symm]
          exact g3
        · rw [upd_ne nb]
          exact s3 _ _ e
end
section
variable {K:PySem.W.Frag}{H:Hp}{N:List Str}
theorem lay_tup {ds:List PyData}(h:PyData.canLayAll0 ds=true):(PyData.tuple ds).canLay0=true:=by unfold PyData.canLay0;exact h
theorem lay_lst {ds:List PyData}(h:PyData.canLayAll0 ds=true):(PyData.list ds).canLay0=true:=by unfold PyData.canLay0;exact h
theorem lay_cons {d:PyData}{ds:List PyData}(h:d.canLay0=true)(r:PyData.canLayAll0 ds=true):PyData.canLayAll0 (d::ds)=true:=by
  unfold PyData.canLayAll0
  rw [h,r]
  rfl
theorem lay_nil:PyData.canLayAll0 []=true:=by unfold PyData.canLayAll0;rfl
theorem lay_str {x:Str}(h:PyData.strOk x=true):(PyData.str x).canLay0=true:=by unfold PyData.canLay0;exact h
theorem lay_int {i:Int}:(PyData.int i).canLay0=true:=by unfold PyData.canLay0;rfl
theorem dep_tup {ds:List PyData}:(PyData.tuple ds).depth=PyData.depthAll ds+1:=by rw [PyData.depth]
theorem dep_lst {ds:List PyData}:(PyData.list ds).depth=PyData.depthAll ds+1:=by rw [PyData.depth]
theorem dep_cons {d:PyData}{ds:List PyData}:PyData.depthAll (d::ds)=max d.depth (PyData.depthAll ds):=by rw [PyData.depthAll]
theorem dep_nil:PyData.depthAll []=0:=by rw [PyData.depthAll]
theorem dep_str {x:Str}:(PyData.str x).depth=0:=by rw [PyData.depth]
theorem dep_int {x:Int}:(PyData.int x).depth=0:=by rw [PyData.depth]
mutual
theorem TrAt.rd (hN:∀ x∈N,PyData.strOk x=true):∀ (t:T) {v:V},TrAt K H t v→t.ok N→∃ d,RdD K H v d∧d.canLay0=true∧d.depth≤2*t.dep+1
  | .ev,_,h,_=>by
    unfold TrAt at h
    obtain ⟨p,rfl,h⟩:=h
    exact ⟨_,.tup h (.cons (.str _) .nil),lay_tup (lay_cons (lay_str (by decide +kernel)) lay_nil),by rw [dep_tup,dep_cons,dep_str,dep_nil];exact Nat.le_add_left _ _⟩
  | .no,_,h,_=>by
    unfold TrAt at h
    obtain ⟨p,rfl,h⟩:=h
    exact ⟨_,.tup h (.cons (.str _) .nil),lay_tup (lay_cons (lay_str (by decide +kernel)) lay_nil),by rw [dep_tup,dep_cons,dep_str,dep_nil];exact Nat.le_add_left _ _⟩
  | .inn x lo hi,_,h,o=>by
    unfold TrAt at h
    unfold T.ok at o
    obtain ⟨p,rfl,h⟩:=h
    exact ⟨_,.tup h (.cons (.str _) (.cons (.str _) (.cons (.int _) (.cons (.int _) .nil)))),lay_tup (lay_cons (lay_str (by decide +kernel)) (lay_cons (lay_str (hN _ o)) (lay_cons lay_int (lay_cons lay_int lay_nil)))),by rw [dep_tup,dep_cons,dep_str,dep_cons,dep_str,dep_cons,dep_int,dep_cons,dep_int,dep_nil];exact Nat.le_add_left _ _⟩
  | .opp t,_,h,o=>by
    unfold TrAt at h
    unfold T.ok at o
    obtain ⟨p,u,rfl,h,hu⟩:=h
    obtain ⟨d,h1,h2,h3⟩:=TrAt.rd hN t hu o
    refine ⟨_,.tup h (.cons (.str _) (.cons h1 .nil)),lay_tup (lay_cons (lay_str (by decide +kernel)) (lay_cons h2 lay_nil)),?_⟩
    rw [dep_tup,dep_cons,dep_str,dep_cons,dep_nil]
    show _≤2*(t.dep+1)+1
    omega
  | .al ts,_,h,o=>by
    unfold TrAt at h
    unfold T.ok at o
    obtain ⟨p,l,us,rfl,h,hl,hu⟩:=h
    obtain ⟨ds,h1,h2,h3⟩:=TrsAt.rd hN ts hu o.2
    refine ⟨_,.tup h (.cons (.str _) (.cons (.lst hl h1) .nil)),lay_tup (lay_cons (lay_str (by decide +kernel)) (lay_cons (lay_lst h2) lay_nil)),?_⟩
    rw [dep_tup,dep_cons,dep_str,dep_cons,dep_lst,dep_nil]
    show _≤2*(ts.dep+1)+1
    omega
  | .on ts,_,h,o=>by
    unfold TrAt at h
    unfold T.ok at o
    obtain ⟨p,l,us,rfl,h,hl,hu⟩:=h
    obtain ⟨ds,h1,h2,h3⟩:=TrsAt.rd hN ts hu o.2
    refine ⟨_,.tup h (.cons (.str _) (.cons (.lst hl h1) .nil)),lay_tup (lay_cons (lay_str (by decide +kernel)) (lay_cons (lay_lst h2) lay_nil)),?_⟩
    rw [dep_tup,dep_cons,dep_str,dep_cons,dep_lst,dep_nil]
    show _≤2*(ts.dep+1)+1
    omega
theorem TrsAt.rd (hN:∀ x∈N,PyData.strOk x=true):∀ (ts:Ts) {us:List V},TrsAt K H ts us→ts.ok N→∃ ds,RdDs K H us ds∧PyData.canLayAll0 ds=true∧PyData.depthAll ds≤2*ts.dep+1
  | .nil,_,h,_=>by
    unfold TrsAt at h
    subst h
    exact ⟨_,.nil,lay_nil,by rw [dep_nil];exact Nat.zero_le _⟩
  | .cons t r,_,h,o=>by
    unfold TrsAt at h
    unfold Ts.ok at o
    obtain ⟨u,vs,rfl,a,b⟩:=h
    obtain ⟨d,h1,h2,h3⟩:=TrAt.rd hN t a o.1
    obtain ⟨ds,k1,k2,k3⟩:=TrsAt.rd hN r b o.2
    refine ⟨_,.cons h1 k1,lay_cons h2 k2,?_⟩
    rw [dep_cons]
    have e1:t.dep≤(Ts.cons t r).dep:=Nat.le_max_left t.dep r.dep
    have e2:r.dep≤(Ts.cons t r).dep:=Nat.le_max_right t.dep r.dep
    exact Nat.max_le.mpr ⟨by omega,by omega⟩
end
theorem rds_of {n:Nat}:∀ {us:List V},(∀ u∈us,∃ d,RdD K H u d∧d.canLay0=true∧d.depth≤n)→∃ ds,RdDs K H us ds∧PyData.canLayAll0 ds=true∧PyData.depthAll ds≤n∧ds.length=us.length
  | [],_=>⟨[],.nil,lay_nil,by rw [dep_nil];exact Nat.zero_le _,rfl⟩
  | u::r,h=>by
    obtain ⟨d,h1,h2,h3⟩:=h u (.head _)
    obtain ⟨ds,k1,k2,k3,k4⟩:=rds_of fun u hu=>h u (.tail _ hu)
    exact ⟨_,.cons h1 k1,lay_cons h2 k2,by rw [dep_cons];exact Nat.max_le.mpr ⟨h3,k3⟩,congrArg (·+1) k4⟩
theorem shp {d:PyData}(h:d.canLay0=true)(l:d.depth≤64):SeqAt.shaped d=true:=by
  unfold SeqAt.shaped
  rw [h,decide_eq_true l]
  rfl
theorem nil_cmp {n:Nat}{a b:Addr}{us:List V}(hn:n≤63)(h:∀ u∈us,∃ d,RdD K H u d∧d.canLay0=true∧d.depth≤n)(ha:SqL K H a us)(hb:SqL K H b []):∃ d e,RdD K H (.ref a) d∧RdD K H (.ref b) e∧SeqAt.shaped d=true∧SeqAt.shaped e=true∧SeqAt.noMix d e=true∧PySem.Spec.same d e=us.isEmpty:=by
  obtain ⟨ds,k1,k2,k3,k4⟩:=rds_of h
  refine ⟨_,_,.lst ha k1,.lst hb .nil,shp (lay_lst k2) (by rw [dep_lst];omega),by decide +kernel,?_,?_⟩
  · unfold SeqAt.noMix
    cases ds<;>(unfold SeqAt.noMixAll;rfl)
  · unfold Spec.same
    cases ds with
    | nil =>
      cases us with
      | nil=>unfold Spec.sameAll;rfl
      | cons=>cases k4
    | cons =>
      cases us with
      | nil=>cases k4
      | cons=>unfold Spec.sameAll;rfl
theorem rEqD_nil {n:Nat}{a b:Addr}{us:List V}{Q:VK}(hn:n≤63)(h:∀ u∈us,∃ d,RdD K H u d∧d.canLay0=true∧d.depth≤n)(ha:SqL K H a us)(hb:SqL K H b [])(q:Q (.bl us.isEmpty) H):rEqD K (.ref a) (.ref b) H Q:=by
  obtain ⟨d,e,h1,h2,h3,h4,h5,h6⟩:=nil_cmp hn h ha hb
  exact ⟨d,e,h1,h2,h3,h4,h5,h6 ▸ q⟩
theorem rNeD_nil {n:Nat}{a b:Addr}{us:List V}{Q:VK}(hn:n≤63)(h:∀ u∈us,∃ d,RdD K H u d∧d.canLay0=true∧d.depth≤n)(ha:SqL K H a us)(hb:SqL K H b [])(q:Q (.bl !us.isEmpty) H):rNeD K (.ref a) (.ref b) H Q:=by
  obtain ⟨d,e,h1,h2,h3,h4,h5,h6⟩:=nil_cmp hn h ha hb
  exact ⟨d,e,h1,h2,h3,h4,h5,h6 ▸ q⟩
end
theorem cnt_len (bs:List Bool):((List.range bs.length).filter fun i=>bs.getD i false).length=(bs.filter id).length:=by
  have:=congrArg List.length (range_filter_map id id bs (fun i=>bs.getD i false) (fun i=>bs.getD i false) fun i x h=>by rw [List.getD_eq_getElem?_getD,h];exact ⟨rfl,rfl⟩)
  rw [List.length_map,List.length_map] at this
  exact this
theorem cnt_all (bs:List Bool):decide ((((List.range bs.length).filter fun i=>bs.getD i false).length:Int)=bs.length)=bs.all id:=by
  rw [cnt_len]
  cases e:bs.all id with
  | true =>
    refine decide_eq_true ?_
    rw [List.length_filter_eq_length_iff.mpr (List.all_eq_true.mp e)]
  | false =>
    refine decide_eq_false fun h=>?_
    have h:(bs.filter id).length=bs.length:=by omega
    rw [List.all_eq_true.mpr (List.length_filter_eq_length_iff.mp h)] at e
    cases e
theorem cnt_any (bs:List Bool)(g:Nat→V):(!(((List.range bs.length).filter fun i=>bs.getD i false).map g).isEmpty)=bs.any id:=by
  have l:=cnt_len bs
  have e1:(((List.range bs.length).filter fun i=>bs.getD i false).map g).isEmpty=(bs.filter id).isEmpty:=by
    rw [List.isEmpty_map]
    cases h1:((List.range bs.length).filter fun i=>bs.getD i false)<;>cases h2:bs.filter id<;>rw [h1,h2] at l<;>first | rfl | cases l
  rw [e1]
  clear e1 l
  induction bs with
  | nil=>rfl
  | cons b r ih =>
    cases b
    · exact ih
    · rfl
def spLHolds (K:PySem.W.Frag)(N:List Str)(n:Nat):Sp:=fun vs H Q _=>∃ (t:T) (v:V) (d:Addr) (kvs:List (Key × V)) (f:Str→Int),vs=[v,.ref d]∧TrAt K H t v∧t.ok N∧t.dep<n∧H d=some (.dK kvs)∧VOk N kvs f∧∀ H',Same H H'→Q (.bl (t.hol f)) H'
section
variable {P:Program}{w:World}{K:PySem.W.Frag}{mg:Str→Option Value}{base:Heap}{N:List Str}
theorem ok_lholds (B:Blt mg) (hN:∀ x∈N,PyData.strOk x=true) (d:DefAt K mg "_law_holds" s_l_holds ["_law_tree","_law_values_here"]):∀ n,n≤30→FnAt P w K mg base "_law_holds" ["_law_tree","_law_values_here"] (n+1) (spLHolds K N n):=by
  intro n
  induction n with
  | zero=>exact fun _=>FnAt.of d sc_l_holds (fun vs H Q E h=>by obtain ⟨t,v,d,kvs,f,rfl,_⟩:=h;rfl) (fun f cdv A outer s H vs Q E hr h=>by obtain ⟨t,v,d,kvs,f,rfl,_,_,h,_⟩:=h;omega)
  | succ n h_l_holds =>
    intro n30
    have h_l_holds:=h_l_holds (by omega)
    refine FnAt.of d sc_l_holds (fun vs H Q E h=>?_) (fun f cdv A outer s H vs Q E hr h=>?_)
    · obtain ⟨t,v,d,kvs,f,rfl,_⟩:=h
      rfl
    obtain ⟨t,v,d,kvs,f,rfl,ht,ok,hd,hv,vo,q⟩:=h
    refine ⟨_,(pss_cons (ps_if (pt_cmpR op_eq (pe_ix (ix_tupK K) (pv 0) pe_int (fun _ _=>rfl)) pe_str (nomark _)) (pss_one (ps_ret (pe_chain op_le op_le (pe_ix (ix_tupK K) (pv 0) pe_int (fun _ _=>rfl)) (pe_dget (hu1 hr) (pv 1) (pe_ix (ix_tupK K) (pv 0) pe_int (fun _ _=>rfl)) (fun _ _=>rfl)) (pe_ix (ix_tupK K) (pv 0) pe_int (fun _ _=>rfl))))) pss_nil)
      (pss_cons (ps_if (pt_cmpR op_eq (pe_ix (ix_tupK K) (pv 0) pe_int (fun _ _=>rfl)) pe_str (nomark _)) (pss_one (ps_ret (pe_not (pe_callF h_l_holds (hr.mono (by omega)) rfl (pa_cons (pe_ix (ix_tupK K) (pv 0) pe_int (fun _ _=>rfl)) (pa_cons (pv 1) pa_nil)))))) pss_nil)
      (pss_cons (ps_if (pt_cmpR op_eq (pe_ix (ix_tupK K) (pv 0) pe_int (fun _ _=>rfl)) pe_str (nomark _)) (pss_one (ps_ret (pe_cmpR op_eq (pe_callB (call_lenK K) rfl B.len PySem.boot_len (pa_cons (pe_comp ["_law_part"] [1] rfl (pi_listK K (pe_ix (ix_tupK K) (pv 0) pe_int (fun _ _=>rfl))) (fun _ _ _ _ _=>pg_name (i:=0) (by show List.Nodup (["_law_part","_law_values_here"]:List Str);decide +kernel) rfl (Or.inl rfl)) (fun _ _ _ _ _=>pts_one (pt_val (pe_callF h_l_holds (hr.mono (by omega)) rfl (pa_cons (pv 0) (pa_cons (pv 1) pa_nil))))) (fun _ _ _ _ _=>(pv 0)) ⟨⟨_,rfl,rfl,.inl rfl⟩,trivial⟩ gOwn_name) pa_nil)) (pe_callB (call_lenK K) rfl B.len PySem.boot_len (pa_cons (pe_ix (ix_tupK K) (pv 0) pe_int (fun _ _=>rfl)) pa_nil)) (nomark _)))) pss_nil)
      (pss_cons (ps_if (pt_cmpR op_eq (pe_ix (ix_tupK K) (pv 0) pe_int (fun _ _=>rfl)) pe_str (nomark _)) (pss_one (ps_ret (pe_cmpR (op_neD K (hu64 hr)) (pe_comp ["_law_part"] [1] rfl (pi_listK K (pe_ix (ix_tupK K) (pv 0) pe_int (fun _ _=>rfl))) (fun _ _ _ _ _=>pg_name (i:=0) (by show List.Nodup (["_law_part","_law_values_here"]:List Str);decide +kernel) rfl (Or.inl rfl)) (fun _ _ _ _ _=>pts_one (pt_val (pe_callF h_l_holds (hr.mono (by omega)) rfl (pa_cons (pv 0) (pa_cons (pv 1) pa_nil))))) (fun _ _ _ _ _=>(pv 0)) ⟨⟨_,rfl,rfl,.inl rfl⟩,trivial⟩ gOwn_name) (pe_lst pa_nil) (nomark _)))) pss_nil)
      (pss_one (ps_ret (pe_cmpR op_eq (pe_ix (ix_tupK K) (pv 0) pe_int (fun _ _=>rfl)) pe_str (nomark _)))))))),?_⟩
    cases t with
    | ev =>
      obtain ⟨p,rfl,hp⟩:=ht
      walk_at "vc"
      refine ⟨_,hp,_,rfl,rfl,?_⟩
      rw [if_neg (by decide +kernel)]
      refine ⟨_,hp,_,rfl,rfl,?_⟩
      rw [if_neg (by decide +kernel)]
      refine ⟨_,hp,_,rfl,rfl,?_⟩
      rw [if_neg (by decide +kernel)]
      refine ⟨_,hp,_,rfl,rfl,?_⟩
      rw [if_neg (by decide +kernel)]
      refine ⟨_,hp,_,rfl,rfl,?_⟩
      exact q _ (Same.refl _)
    | no =>
      obtain ⟨p,rfl,hp⟩:=ht
      walk_at "vc"
      refine ⟨_,hp,_,rfl,rfl,?_⟩
      rw [if_neg (by decide +kernel)]
      refine ⟨_,hp,_,rfl,rfl,?_⟩
      rw [if_neg (by decide +kernel)]
      refine ⟨_,hp,_,rfl,rfl,?_⟩
      rw [if_neg (by decide +kernel)]
      refine ⟨_,hp,_,rfl,rfl,?_⟩
      rw [if_neg (by decide +kernel)]
      refine ⟨_,hp,_,rfl,rfl,?_⟩
      rw [decide_eq_false (by decide +kernel)]
      exact q _ (Same.refl _)
    | inn x lo hi =>
      obtain ⟨p,rfl,hp⟩:=ht
      walk_at "vc"
      refine ⟨_,hp,_,rfl,rfl,?_⟩
      rw [if_pos rfl]
      refine ⟨_,hp,_,rfl,_,hp,_,rfl,_,.inl ⟨kvs,.inr x,.inl hv,rfl,(vo x ok).symm⟩,_,rfl,_,rfl,?_⟩
      have q:=q _ (Same.refl _)
      unfold T.hol at q
      split
      · rename_i c
        refine ⟨_,hp,_,rfl,_,rfl,_,rfl,?_⟩
        rw [decide_eq_true c] at q
        exact q
      · rename_i c
        rw [decide_eq_false c] at q
        exact q
    | opp t =>
      obtain ⟨p,u,rfl,hp,hu⟩:=ht
      walk_at "vc"
      refine ⟨_,hp,_,rfl,rfl,?_⟩
      rw [if_neg (by decide +kernel)]
      refine ⟨_,hp,_,rfl,rfl,?_⟩
      rw [if_pos rfl]
      exact ⟨_,hp,_,rfl,t,u,d,kvs,f,rfl,hu,ok,Nat.lt_of_succ_lt_succ hd,hv,vo,fun H' s=>⟨_,rfl,q H' s⟩⟩
    | al ts =>
      obtain ⟨p,l,us,rfl,hp,hl,hu⟩:=ht
      have dp:ts.dep<n:=Nat.lt_of_succ_lt_succ hd
      have ln:=TrsAt.len ts hu
      have l0:=ok.1
      walk_at "vc"
      refine ⟨_,hp,_,rfl,rfl,?_⟩
      rw [if_neg (by decide +kernel)]
      refine ⟨_,hp,_,rfl,rfl,?_⟩
      rw [if_neg (by decide +kernel)]
      refine ⟨_,hp,_,rfl,rfl,?_⟩
      rw [if_pos rfl]
      have lb:(ts.hols f).length=us.length:=by rw [Ts.hols_eq,List.length_map,ln]
      refine ⟨_,hp,_,rfl,l,rfl,⟨_,hl⟩,compT (xs:=us) (fun i=>(ts.hols f).getD i false) hl (by omega) (fun i x H2 R hx s2 q2=>?_) (fun x H2 R q2=>?_) (fun D H2 s2 h2=>?_)⟩
      · obtain ⟨t,ht,htr⟩:=TrsAt.at ts hu hx
        have tm:=List.mem_of_getElem? ht
        have e:(ts.hols f).getD i false=t.hol f:=by
          rw [Ts.hols_eq,List.getD_eq_getElem?_getD,List.getElem?_map,ht]
          rfl
        rw [e] at q2
        walk_at "vc"
        exact ⟨t,x,d,kvs,f,rfl,TrAt.same s2 t htr,Ts.ok_mem ts ok.2 tm,Nat.lt_of_le_of_lt (Ts.dep_le ts tm) dp,s2 _ _ hv,vo,fun H3 s3=>⟨_,rfl,q2 H3 s3⟩⟩
      · walk_at "vc"
        exact q2
      · refine ⟨D,rfl,_,.inl (SqL.of h2),_,sqT_same s2 hp,_,rfl,l,rfl,_,.inl (s2.seq hl),?_⟩
        have e:=cnt_all (ts.hols f)
        rw [lb] at e
        rw [List.length_map,e]
        exact q _ s2
    | on ts =>
      obtain ⟨p,l,us,rfl,hp,hl,hu⟩:=ht
      have dp:ts.dep<n:=Nat.lt_of_succ_lt_succ hd
      have ln:=TrsAt.len ts hu
      have l0:=ok.1
      walk_at "vc"
      refine ⟨_,hp,_,rfl,rfl,?_⟩
      rw [if_neg (by decide +kernel)]
      refine ⟨_,hp,_,rfl,rfl,?_⟩
      rw [if_neg (by decide +kernel)]
      refine ⟨_,hp,_,rfl,rfl,?_⟩
      rw [if_neg (by decide +kernel)]
      refine ⟨_,hp,_,rfl,rfl,?_⟩
      rw [if_pos rfl]
      have lb:(ts.hols f).length=us.length:=by rw [Ts.hols_eq,List.length_map,ln]
      refine ⟨_,hp,_,rfl,l,rfl,⟨_,hl⟩,compT (xs:=us) (fun i=>(ts.hols f).getD i false) hl (by omega) (fun i x H2 R hx s2 q2=>?_) (fun x H2 R q2=>?_) (fun D H2 s2 h2=>?_)⟩
      · obtain ⟨t,ht,htr⟩:=TrsAt.at ts hu hx
        have tm:=List.mem_of_getElem? ht
        have e:(ts.hols f).getD i false=t.hol f:=by
          rw [Ts.hols_eq,List.getD_eq_getElem?_getD,List.getElem?_map,ht]
          rfl
        rw [e] at q2
        walk_at "vc"
        exact ⟨t,x,d,kvs,f,rfl,TrAt.same s2 t htr,Ts.ok_mem ts ok.2 tm,Nat.lt_of_le_of_lt (Ts.dep_le ts tm) dp,s2 _ _ hv,vo,fun H3 s3=>⟨_,rfl,q2 H3 s3⟩⟩
      · walk_at "vc"
        exact q2
      · have e:=cnt_any (ts.hols f) fun i=>us.getD i .non
        rw [lb] at e
        refine ⟨by decide,fun p3 h3=>?_⟩
        have s3:=Same.new (o:=.lst []) h3
        refine rNeD_nil (n:=2*n+1) (by omega) (fun u hu=>?_) (SqL.of (s3 _ _ h2)) (SqL.of upd_same) ?_
        · obtain ⟨i,hi,rfl⟩:=List.mem_map.mp hu
          have hi:i<us.length:=List.mem_range.mp (List.mem_filter.mp hi).1
          have gi:us[i]?=some us[i]:=List.getElem?_eq_getElem hi
          obtain ⟨t,ht,htr⟩:=TrsAt.at ts ‹_› gi
          have tm:=List.mem_of_getElem? ht
          have e2:us.getD i .non=us[i]:=by rw [List.getD_eq_getElem?_getD,gi];rfl
          rw [e2]
          obtain ⟨d1,k1,k2,k3⟩:=TrAt.rd hN t (TrAt.same (s2.trans s3) t htr) (Ts.ok_mem ts ok.2 tm)
          have:=Ts.dep_le ts tm
          exact ⟨d1,k1,k2,by omega⟩
        · rw [e]
          exact q _ (s2.trans s3)
end
structure VG (N:List Str)(k:Nat)(kvs:List (Key × V)):Prop where
  len:kvs.length≤k
  nd:(kvs.map (·.1)).Nodup
  isI:∀ kv∈kvs,∃ i,kv.2=.int i
  has:∀ (i:Nat) x,i<k→N[i]?=some x→∃ j,valV kvs (.inr x)=some (.int j)
theorem putK_len {kvs:List (Key × V)}{k:Key}{v:V}:(putK kvs k v).length≤kvs.length+1:=by
  unfold putK
  split
  · rw [List.length_map];omega
  · rw [List.length_append];exact Nat.le_refl _
theorem VG.put {N:List Str} {k:Nat} {kvs:List (Key × V)} (h:VG N k kvs) {x:Str} (hx:N[k]?=some x) (i:Int):VG N (k+1) (putK kvs (.inr x) (.int i)):=by
  refine ⟨Nat.le_trans putK_len (Nat.succ_le_succ h.len),?_,fun kv hk=>?_,fun j y hj hy=>?_⟩
  · unfold putK
    split
    · rw [List.map_map]
      have:((fun x:Key × V=>x.1) ∘ fun kv:Key × V=>if kv.1=.inr x then (kv.1,V.int i) else kv)=fun x=>x.1:=by
        funext kv
        show (if _ then _ else _:Key × V).1=_
        split<;>rfl
      rw [this]
      exact h.nd
    · rename_i c
      rw [List.map_append]
      refine List.nodup_append.mpr ⟨h.nd,List.nodup_cons.mpr ⟨List.not_mem_nil,List.nodup_nil⟩,fun a ha b hb e=>c ?_⟩
      obtain ⟨kv,h1,h2⟩:=List.mem_map.mp ha
      have hb:b=.inr x:=by simpa using hb
      exact List.any_eq_true.mpr ⟨kv,h1,decide_eq_true (by rw [h2,e,hb])⟩
  · unfold putK at hk
    split at hk
    · obtain ⟨kv',h1,rfl⟩:=List.mem_map.mp hk
      split
      · exact ⟨i,rfl⟩
      · exact h.isI _ h1
    · rcases List.mem_append.mp hk with h1 | h1
      · exact h.isI _ h1
      · rw [List.mem_singleton.mp h1]
        exact ⟨i,rfl⟩
  · rw [valV_put]
    by_cases e:(Sum.inr y:Key)=.inr x
    · rw [if_pos e]
      exact ⟨i,rfl⟩
    · rw [if_neg e]
      refine h.has j y ?_ hy
      rcases Nat.lt_succ_iff_lt_or_eq.mp hj with z | rfl
      · exact z
      · cases hx.symm.trans hy
        exact absurd rfl e
theorem VG.nil {N:List Str}:VG N 0 []:=⟨Nat.le_refl _,List.nodup_nil,fun _ h=>(List.not_mem_nil h).elim,fun _ _ h=>absurd h (Nat.not_lt_zero _)⟩
def vAt (kvs:List (Key × V))(x:Str):Int:=match valV kvs (.inr x) with | some (.int i)=>i | _=>0
theorem VG.ok {N:List Str}{kvs:List (Key × V)}(h:VG N 3 kvs)(hN:N.length=3):VOk N kvs (vAt kvs):=fun x hx=>by
  obtain ⟨i,hi⟩:=List.getElem?_of_mem hx
  obtain ⟨j,hj⟩:=h.has i x (by have:=(List.getElem?_eq_some_iff.mp hi).1;omega) hi
  unfold vAt
  rw [hj]
theorem small5' {n:Nat}(h:n≤1000):n<sizeLine:=Nat.lt_of_le_of_lt h (by decide)
def spVals (K:PySem.W.Frag):Sp:=fun vs H Q _=>∃ (a b:Addr) (N:List Str) (ns:List Int) (c:Int),vs=[.ref a,.ref b,.int c]∧SqL K H a (N.map V.str)∧N.length=3∧SqL K H b (ns.map V.int)∧ns.length≤10000∧∀ p kvs H',Same H H'→H p=none→H' p=some (.dK kvs)→VG N 3 kvs→Q (.ref p) H'
structure VlI (a b p:Addr)(c:Int)(N:List Str)(H:Hp)(k:Nat)(σ:L2.St)(H':Hp):Prop where
  ex:∃ v4 v5 v6 kvs,σ=[some (.ref a),some (.ref b),some (.int c),some (.ref p),v4,v5,v6]∧H' p=some (.dK kvs)∧VG N k kvs
  sm:Same H H'
section
variable {P:Program}{w:World}{K:PySem.W.Frag}{mg:Str→Option Value}{base:Heap}
theorem ok_vals (B:Blt mg) (h_l_mixed:FnAt P w K mg base "_law_mixed" ["_law_cell","_law_k"] 1 spMixed) (d:DefAt K mg "_law_values" s_l_values ["_law_names_here","_law_numbers","_law_cell"]):FnAt P w K mg base "_law_values" ["_law_names_here","_law_numbers","_law_cell"] 2 (spVals K):=by
  refine FnAt.of d sc_l_values (fun vs H Q E h=>?_) (fun f cdv A outer s H vs Q E hr h=>?_)
  · obtain ⟨a,b,N,ns,c,rfl,_⟩:=h
    rfl
  obtain ⟨a,b,N,ns,c,rfl,hA,hN,hB,hl,q⟩:=h
  refine ⟨_,(pss_cons (ps_set (i:=3) sc_l_values.nd rfl (by walk_at "l") pe_dnewK)
      (pss_cons (ps_for PassesOwn.never rfl (pi_range1 rfl B.range (pa_cons pe_int pa_nil)) (pg_name (i:=4) sc_l_values.nd rfl (by walk_at "l")) (pss_cons (ps_set (i:=5) sc_l_values.nd rfl (by walk_at "l") (pe_callF h_l_mixed (hr.mono (by decide)) rfl (pa_cons (pv 2) (pa_cons (pe_op op_add pe_int (pv 4)) pa_nil))))
      (pss_cons (ps_set (i:=6) sc_l_values.nd rfl (by walk_at "l") (pe_op op_mod (pe_op op_fdiv (pv 5) pe_int) pe_int))
      (pss_cons (ps_if (PW.pt (pw_and (pt_cmpR op_gt (pe_op op_mod (pv 5) pe_int) pe_int (nomark _)) (pw_and1 (pt_cmpR (op_neD K (hu64 hr)) (pv 1) (pe_lst pa_nil) (nomark _))))) (pss_one (ps_set (i:=6) sc_l_values.nd rfl (by walk_at "l") (pe_op op_add (pe_ix (ix_listK K) (pv 1) (pe_op op_mod (pe_op op_fdiv (pv 5) pe_int) (pe_callB (call_lenK K) rfl B.len PySem.boot_len (pa_cons (pv 1) pa_nil))) (fun _ _=>rfl)) (pe_ix (ix_listK K) (pe_lst (pa_cons pe_int (pa_cons pe_int (pa_cons pe_int (pa_cons pe_int (pa_cons (pe_un un_neg pe_int) (pa_cons pe_int pa_nil))))))) (pe_op op_sub (pe_op op_mod (pv 5) pe_int) pe_int) (fun _ _=>rfl))))) pss_nil)
      (pss_one (ps_dput (hu1 hr) (pv 3) (pe_ix (ix_listK K) (pv 0) (pv 4) (fun _ _=>rfl)) (pv 6) rfl))))))
      (pss_one (ps_ret (pv 3))))),?_⟩
  walk_at "vc"
  intro p hp
  refine loopR (VlI a b p c N H) ⟨⟨_,_,_,[],rfl,upd_same,VG.nil⟩,Same.new hp⟩ ?_ ?_
  · rintro k σ H1 hk ⟨⟨v4,v5,v6,kvs,rfl,h1,vg⟩,s1⟩
    obtain ⟨x,hx⟩:∃ x,N[k]?=some x:=⟨_,List.getElem?_eq_getElem (by omega)⟩
    rw [gName_ap]
    refine seq_step fun k' hk'=>?_
    walk_at "vc"
    refine ⟨_,_,rfl,hk' _ _ (seq_step fun k' hk'=>?_)⟩
    walk_at "vc"
    refine hk' _ _ (seq_step fun k' hk'=>?_)
    generalize mixI c (5+(k:Int))=z
    have go:∀ (y:Int) H2,Same H1 H2→k' [some (.ref a),some (.ref b),some (.int c),some (.ref p),some (.int k),some (.int z),some (.int y)] H2:=fun y H2 s2=>by
      refine hk' _ _ ?_
      walk_at "vc"
      refine ⟨_,(s1.trans s2).seq hA,_,atI_nat (by rw [List.getElem?_map,hx];rfl),_,DPut.k (k:=.inr x) (s2 _ _ h1) (small5' (Nat.le_trans vg.len (by omega))),⟨_,_,_,_,rfl,upd_same,vg.put hx y⟩,(s1.trans s2).put hp⟩
    walk_at "vc"
    by_cases c1:1<z%8
    · rw [if_pos c1]
      refine ⟨Nat.zero_le _,fun p1 h3=>?_⟩
      have s3:=Same.new (o:=.lst []) h3
      refine rNeD_ints (ms:=[]) ((s1.trans s3).seq hB) (SqL.of upd_same) ⟨_,rfl,?_⟩
      by_cases c2:ns=[]
      · rw [decide_eq_true c2,if_neg (by decide)]
        exact go _ _ s3
      · rw [decide_eq_false c2,if_pos (by decide)]
        have hS:=(s1.trans s3).seq hB
        have l0:0<ns.length:=List.length_pos_iff.mpr c2
        have e0:=Int.emod_nonneg (z/8) (b:=(ns.length:Int)) (by omega)
        have e1:=Int.emod_lt_of_pos (z/8) (b:=(ns.length:Int)) (by omega)
        obtain ⟨j,hj⟩:=Int.eq_ofNat_of_zero_le e0
        rw [hj] at e1
        have gj:ns[j]?=some ns[j]:=List.getElem?_eq_getElem (by omega)
        refine ⟨_,.inl hS,by rw [List.length_map];omega,_,hS,.int ns[j],by rw [List.length_map,hj];exact atI_nat (by rw [List.getElem?_map,gj];rfl),by decide,fun p2 h4=>⟨_,SqL.of upd_same,?_⟩⟩
        obtain ⟨i,hi,ei⟩:∃ i:Nat,i<6∧z%8-2=(i:Int):=⟨(z%8-2).toNat,by omega,by omega⟩
        rw [ei]
        have g6:∃ y,[V.int 0,V.int 0,V.int 0,V.int 1,V.int (-1),V.int 0][i]?=some (V.int y):=by
          have:i=0∨i=1∨i=2∨i=3∨i=4∨i=5:=by omega
          rcases this with rfl | rfl | rfl | rfl | rfl | rfl<;>exact ⟨_,rfl⟩
        obtain ⟨y,hy⟩:=g6
        exact ⟨_,atI_nat hy,_,rfl,_,rfl,go _ _ (s3.trans (Same.new h4))⟩
    · rw [if_neg c1]
      exact go _ _ (Same.refl _)
  · rintro σ H1 ⟨⟨v4,v5,v6,kvs,rfl,h1,vg⟩,s1⟩
    walk_at "vc"
    exact q _ _ _ s1 hp h1 vg
end
theorem strOk_app {a b:Str}(h:PyData.strOk a=true)(k:PyData.strOk b=true):PyData.strOk (a++b)=true:=by
  unfold PyData.strOk at *
  show (a.cps++b.cps).all _=true
  rw [Array.all_append,h,k]
  rfl
theorem let_ok:∀ c∈letS.cps.toList,c<1114112:=by decide +kernel
theorem sgS_ok (n:Int):PyData.strOk (sgS n)=true:=by
  have h:(atI letS.cps.toList n).getD 0<1114112:=by
    cases e:atI letS.cps.toList n with
    | none=>exact (by decide:0<1114112)
    | some c=>exact let_ok c (List.mem_of_getElem? (atI_get e).choose_spec.2.1)
  unfold PyData.strOk sgS
  simp [h]
theorem lwS_ok (x:Int)(size k:Nat):∀ j,PyData.strOk (lwS x size k j)=true
  | 0=>by show PyData.strOk (Str.ofString "")=true;decide +kernel
  | j+1=>strOk_app (lwS_ok x size k j) (sgS_ok _)
theorem nms_ok (ns:List Int)(m:Int):∀ x∈nms ns m,PyData.strOk x=true:=fun x hx=>by
  unfold nms at hx
  obtain ⟨k,_,rfl⟩:=List.mem_map.mp hx
  unfold nmK nmOf
  split
  · exact strOk_app (lwS_ok _ _ _ _) (by decide +kernel)
  · exact lwS_ok _ _ _ _
theorem nms_len (ns:List Int)(m:Int):(nms ns m).length=3:=by
  unfold nms
  rw [List.length_map,List.length_range]
def Ts.ofL:List T→Ts
  | []=>.nil
  | t::r=>.cons t (Ts.ofL r)
theorem Ts.toL_ofL:∀ l:List T,(Ts.ofL l).toL=l
  | []=>rfl
  | t::r=>congrArg (t::·) (Ts.toL_ofL r)
theorem Ts.dep_ofL {n:Nat}:∀ l:List T,(∀ t∈l,t.dep≤n)→(Ts.ofL l).dep≤n
  | [],_=>Nat.zero_le _
  | t::r,h=>Nat.max_le.mpr ⟨h t (.head _),Ts.dep_ofL r fun x hx=>h x (.tail _ hx)⟩
theorem Ts.ok_ofL {N:List Str}:∀ l:List T,(∀ t∈l,t.ok N)→(Ts.ofL l).ok N
  | [],_=>trivial
  | t::r,h=>⟨h t (.head _),Ts.ok_ofL r fun x hx=>h x (.tail _ hx)⟩
theorem Ts.nums_ofL (l:List T):(Ts.ofL l).nums=l.flatMap T.nums:=by rw [Ts.nums_eq,Ts.toL_ofL]
theorem TrsAt.mk {K:PySem.W.Frag}{H:Hp}:∀ (l:List T) {us:List V},us.length=l.length→(∀ (i:Nat) u t,us[i]?=some u→l[i]?=some t→TrAt K H t u)→TrsAt K H (Ts.ofL l) us
  | [],us,h,_=>by
    show TrsAt K H .nil us
    unfold TrsAt
    exact List.length_eq_zero_iff.mp h
  | t :: r,us,h,e=>by
    cases us with
    | nil=>cases h
    | cons u vs =>
      show TrsAt K H (.cons t (Ts.ofL r)) _
      unfold TrsAt
      exact ⟨u,vs,rfl,e 0 u t rfl rfl,TrsAt.mk r (Nat.succ.inj h) fun i=>e (i+1)⟩
structure It (K:PySem.W.Frag)(N:List Str)(G:Hp)(u:V)(x:T × Nat):Prop where
  ex:∃ q v,u=.ref q∧SqT K G q [v,.int (x.2:Nat)]∧TrAt K G x.1 v
  dep:x.1.dep≤x.2
  top:x.2≤18
  ok:x.1.ok N
theorem It.same {K:PySem.W.Frag}{N:List Str}{G G':Hp}{u:V}{x:T × Nat}(h:It K N G u x)(s:Same G G'):It K N G' u x:=by
  obtain ⟨⟨q,v,e,h1,h2⟩,a,b,c⟩:=h
  exact ⟨⟨q,v,e,sqT_same s h1,TrAt.same s _ h2⟩,a,b,c⟩
structure Its (K:PySem.W.Frag)(N:List Str)(G:Hp)(us:List V)(its:List (T × Nat)):Prop where
  len:us.length=its.length
  it:∀ (i:Nat) u x,us[i]?=some u→its[i]?=some x→It K N G u x
section
variable {K:PySem.W.Frag}{N:List Str}{G G':Hp}{us vs:List V}{its jts:List (T × Nat)}
theorem Its.same (h:Its K N G us its)(s:Same G G'):Its K N G' us its:=⟨h.len,fun i u x a b=>(h.it i u x a b).same s⟩
theorem Its.take (h:Its K N G us its)(n:Nat):Its K N G (us.take n) (its.take n):=by
  refine ⟨by rw [List.length_take,List.length_take,h.len],fun i u x a b=>?_⟩
  rw [List.getElem?_take] at a b
  split at a
  · rename_i c
    rw [if_pos c] at b
    exact h.it i u x a b
  · cases a
theorem Its.drop (h:Its K N G us its)(n:Nat):Its K N G (us.drop n) (its.drop n):=by
  refine ⟨by rw [List.length_drop,List.length_drop,h.len],fun i u x a b=>?_⟩
  rw [List.getElem?_drop] at a b
  exact h.it _ u x a b
theorem Its.snoc (h:Its K N G us its){u:V}{x:T × Nat}(hx:It K N G u x):Its K N G (us++[u]) (its++[x]):=by
  refine ⟨by rw [List.length_append,List.length_append,h.len];rfl,fun i v y a b=>?_⟩
  by_cases c:i<us.length
  · rw [List.getElem?_append_left c] at a
    rw [List.getElem?_append_left (by rw [← h.len];exact c)] at b
    exact h.it i v y a b
  · rw [List.getElem?_append_right (by omega)] at a
    have e0:i-us.length=0:=by
      have:=(List.getElem?_eq_some_iff.mp a).1
      simp at this
      omega
    rw [e0] at a
    rw [List.getElem?_append_right (by rw [← h.len];omega),← h.len,e0] at b
    cases a
    cases b
    exact hx
theorem Its.mem (h:Its K N G us its){x:T × Nat}(hx:x∈its):∃ u,It K N G u x:=by
  obtain ⟨i,hi⟩:=List.getElem?_of_mem hx
  have hl:=(List.getElem?_eq_some_iff.mp hi).1
  exact ⟨_,h.it i _ x (List.getElem?_eq_getElem (by rw [h.len];exact hl)) hi⟩
end
def nsum (its:List (T × Nat)):Nat:=(its.map fun x=>x.1.nums.length).sum
theorem nsum_app (a b:List (T × Nat)):nsum (a++b)=nsum a+nsum b:=by
  unfold nsum
  rw [List.map_append,List.sum_append]
theorem nsum_cut (its:List (T × Nat))(n:Nat):nsum (its.take n)+nsum (its.drop n)=nsum its:=by rw [← nsum_app,List.take_append_drop]
theorem nsum_one (x:T × Nat):nsum [x]=x.1.nums.length:=by
  unfold nsum
  simp
theorem nums_sum (its:List (T × Nat)):(Ts.ofL (its.map (·.1))).nums.length=nsum its:=by
  rw [Ts.nums_ofL]
  unfold nsum
  induction its with
  | nil=>rfl
  | cons x r ih=>simp [ih]
theorem max_of (ns:List Nat):∃ d:Nat,(ns.map fun (n:Nat)=>(n:Int)).max?.getD 0=(d:Int)∧∀ n∈ns,n≤d:=by
  cases e:(ns.map fun (n:Nat)=>(n:Int)).max? with
  | none =>
    have:=List.max?_eq_none_iff.mp e
    have:ns=[]:=List.map_eq_nil_iff.mp this
    subst this
    exact ⟨0,rfl,fun _ h=>by cases h⟩
  | some m =>
    obtain ⟨h1,h2⟩:=List.max?_eq_some_iff.mp e
    obtain ⟨k,hk,rfl⟩:=List.mem_map.mp h1
    exact ⟨k,rfl,fun n hn=>by have:=h2 _ (List.mem_map.mpr ⟨n,hn,rfl⟩);omega⟩
theorem cutV_from (us:List V){n:Nat}(h:n≤us.length):cutV us (some (n:Int)) none=us.drop n:=by
  unfold cutV
  have e:HT.sIx us.length 0 (some ((n:Nat):Int))=min n us.length:=HT.sIx_nat _ _ n
  have e1:HT.sIx us.length us.length none=us.length:=rfl
  rw [e,e1,Nat.min_eq_left h,List.take_of_length_le (by rw [List.length_drop];exact Nat.le_refl _)]
theorem cutV_to (us:List V){n:Nat}(h:n≤us.length):cutV us none (some (n:Int))=us.take n:=by
  unfold cutV
  have e:HT.sIx us.length us.length (some ((n:Nat):Int))=min n us.length:=HT.sIx_nat _ _ n
  have e1:HT.sIx us.length 0 none=0:=rfl
  rw [e,e1,List.drop_zero,Nat.sub_zero,Nat.min_eq_left h]
theorem cutV_last (us:List V):cutV us none (some (-1))=us.take (us.length-1):=by
  unfold cutV
  have e:HT.sIx us.length us.length (some (-1))=us.length-1:=by
    unfold HT.sIx
    show (if (-1:Int)<0 then ((-1:Int)+us.length).toNat else min (-1:Int).toNat us.length)=_
    rw [if_pos (by decide)]
    omega
  have e1:HT.sIx us.length 0 none=0:=rfl
  rw [e,e1,List.drop_zero,Nat.sub_zero]
theorem del_mv {H H':Hp}{p p':Addr}(s:Same H H')(f:H p'=none):Same (del H p) (del H' p'):=fun b o e=>by
  obtain ⟨n,e⟩:=del_some e
  rw [del_ne (ne_of_none e f)]
  exact s _ _ e
theorem del_put {H H':Hp}{p:Addr}{o:HO}(s:Same H H'):Same (del H p) (del (upd H' p o) p):=fun b ob e=>by
  obtain ⟨n,e⟩:=del_some e
  rw [del_ne n,upd_ne n]
  exact s _ _ e
theorem new_put {H H' H'':Hp}{p:Addr}{o o':HO}(h:H p=some o')(s:Same H' H''):Same (New H H') (del (upd H'' p o) p):=fun b ob e=>by
  obtain ⟨e1,e2⟩:=New.some e
  have n:b≠p:=fun z=>by rw [z,h] at e1;cases e1
  rw [del_ne n,upd_ne n]
  exact s _ _ e2
theorem del_sub {H:Hp}{p:Addr}:Same (del H p) H:=fun b o e=>(del_some e).2
def mW (ns:List Int):Int:=if ns.getD 1 0%3=0 then 8 else 3
def nmW (ns:List Int):List Str:=nms ns (mW ns)
def spBuilt (K:PySem.W.Frag):Sp:=fun vs H Q _=>∃ (sc:Addr) (ns:List Int) (m:Int),vs=[.ref sc,.int m]∧SqL K H sc (ns.map V.int)∧∀ t v H',Same H H'→TrAt K H' t v→t.ok (nmW ns)→t.dep≤19→t.nums.length≤120→Q v H'
structure BI (K:PySem.W.Frag)(N:List Str)(sc a c:Addr)(m:Int)(wd:Bool)(zs:List Int)(H:Hp)(i:Nat)(σ:L2.St)(H':Hp):Prop where
  ex:∃ (p:Addr) (lf no:Int) (us:List V) (its:List (T × Nat)) (v7 v8 v9 v10 v11:Option V),σ=[some (.ref sc),some (.int m),some (.bl wd),some (.ref a),some (.ref p),some (.int lf),some (.int no),v7,v8,v9,v10,v11]∧H' p=some (.lst us)∧Its K N (del H' p) us its∧its.length≤i∧nsum its≤2*i∧H p=none∧del H' p a=some (.lst (N.map V.str))∧del H' p c=some (.lst (zs.map V.int))
  sm:Same H H'
theorem cut60 (ns:List Int):∃ zs:List Int,cutV (ns.map V.int) (some 3) (some 63)=zs.map V.int∧zs.length≤60:=by
  have e:cutV (ns.map V.int) (some 3) (some 63)=((ns.drop (HT.sIx ns.length 0 (some 3))).take (HT.sIx ns.length ns.length (some 63)-HT.sIx ns.length 0 (some 3))).map V.int:=by
    unfold cutV
    rw [List.length_map,List.map_take,List.map_drop]
  refine ⟨_,e,?_⟩
  rw [show (3:Int)=((3:Nat):Int) from rfl,show (63:Int)=((63:Nat):Int) from rfl,HT.sIx_nat,HT.sIx_nat,List.length_take,List.length_drop]
  omega
theorem if_step {tt:TT}{a b:TS}{D:Ends}{σ:L2.St}{H:Hp}(h:∀ kb:L2.St→Hp→Prop,(∀ σ' H',b D σ' H'→kb σ' H')→tt σ H fun c H1=>if c=true then a D σ H1 else kb σ H1):tIfS tt a b D σ H:=h (b D) fun _ _ x=>x
theorem del_mn {H H':Hp}{p:Addr}(s:Same H H'):Same (del H p) (del H' p):=fun b o e=>by
  obtain ⟨n,e⟩:=del_some e
  rw [del_ne n]
  exact s _ _ e
section
variable {K:PySem.W.Frag}{N:List Str}{G H1:Hp}{us:List V}{its:List (T × Nat)}{a:Addr}{σ:L2.St}{Q:VK}
theorem comp_snd (hits:Its K N G us its)(sG:Same G H1)(hS:SqL K H1 a us)(hn:us.length≤1000000)(hq:∀ D H2,Same H1 H2→H2 D=some (.lst ((its.map fun x=>(x.2:Int)).map V.int))→Q (.ref D) H2) :
    CompJ (Itl K a) 1 [] (gName 0) tNoTest (tOp (rIxT K) (tVar 0) (tC (V.int 1))) σ H1 Q:=by
  refine compA (xs:=us) (fun i y _=>∀ x,its[i]?=some x→y=.int (x.2:Nat)) (fun _ _ _ _ _ h=>h) hS hn (fun i u H2 R hu s2 q2=>?_) (fun D ys H2 hD s2 h2 l2 h3=>?_)
  · have hl:=(List.getElem?_eq_some_iff.mp hu).1
    have gx:=List.getElem?_eq_getElem (l:=its) (i:=i) (by rw [← hits.len];exact hl)
    obtain ⟨⟨q,v,rfl,h1,_⟩,_⟩:=hits.it i u _ hu gx
    walk_at "vc"
    exact ⟨_,sqT_same (sG.trans s2) h1,_,rfl,q2 _ _ (Same.refl _) fun x hx=>by cases gx.symm.trans hx;rfl⟩
  · have e:ys=(its.map fun x=>(x.2:Int)).map V.int:=by
      refine List.ext_getElem (by rw [List.length_map,List.length_map,l2,hits.len]) fun i a1 a2=>?_
      have hl:i<its.length:=by rw [← hits.len,← l2];exact a1
      have:=h3 i _ (List.getElem?_eq_getElem a1) _ (List.getElem?_eq_getElem hl)
      rw [this,List.getElem_map,List.getElem_map]
    exact hq D H2 s2 (e ▸ h2)
theorem comp_fst (hits:Its K N G us its)(sG:Same G H1)(hS:SqL K H1 a us)(hn:us.length≤1000000)(hq:∀ D ys H2,H1 D=none→Same H1 H2→H2 D=some (.lst ys)→ys.length=its.length→(∀ (i:Nat) y x,ys[i]?=some y→its[i]?=some x→TrAt K G x.1 y)→Q (.ref D) H2) :
    CompJ (Itl K a) 1 [] (gName 0) tNoTest (tOp (rIxT K) (tVar 0) (tC (V.int 0))) σ H1 Q:=by
  refine compA (xs:=us) (fun i y _=>∀ x,its[i]?=some x→TrAt K G x.1 y) (fun _ _ _ _ _ h=>h) hS hn (fun i u H2 R hu s2 q2=>?_) (fun D ys H2 hD s2 h2 l2 h3=>hq D ys H2 hD s2 h2 (by rw [l2,hits.len]) fun i y x hy hx=>h3 i y hy x hx)
  have hl:=(List.getElem?_eq_some_iff.mp hu).1
  have gx:=List.getElem?_eq_getElem (l:=its) (i:=i) (by rw [← hits.len];exact hl)
  obtain ⟨⟨q,v,rfl,h1,h2⟩,_⟩:=hits.it i u _ hu gx
  walk_at "vc"
  exact ⟨_,sqT_same (sG.trans s2) h1,_,rfl,q2 _ _ (Same.refl _) fun x hx=>by cases gx.symm.trans hx;exact h2⟩
end
theorem new_del {H:Hp}{p:Addr}{o:HO}(h:H p=none):Same H (del (upd H p o) p):=fun b ob e=>by
  rw [del_ne (ne_of_none e h),upd_ne (ne_of_none e h)]
  exact e
theorem andor {K:PySem.W.Frag}{N:List Str}(ts:Ts){z:Int}(h:z=0∨z=1):∃ (w:Str) (t:T),atI [V.str (Str.ofString "and"),V.str (Str.ofString "or")] z=some (.str w)∧(∀ G q l us,SqT K G q [.str w,.ref l]→SqL K G l us→TrsAt K G ts us→TrAt K G t (.ref q))∧t.dep=ts.dep+1∧(ts.toL.length≤1000→ts.ok N→t.ok N)∧t.nums=ts.nums:=by
  rcases h with rfl | rfl
  · exact ⟨_,.al ts,rfl,fun G q l us a b c=>⟨q,l,us,rfl,a,b,c⟩,rfl,fun a b=>⟨a,b⟩,rfl⟩
  · exact ⟨_,.on ts,rfl,fun G q l us a b c=>⟨q,l,us,rfl,a,b,c⟩,rfl,fun a b=>⟨a,b⟩,rfl⟩
theorem cat_end {Ha:Hp}{p2 q:Addr}{us:List V}(R:Addr→Hp→Prop)(h2:Ha p2=some (.lst us))(hl:us.length≤1000)(fin:∀ pb H',Ha pb=none→Same Ha H'→Same Ha (del H' pb)→H' pb=some (.lst (us++[.ref q]))→R pb H') :
    1≤sizeLine∧∀ pa,Ha pa=none→∃ x,upd Ha pa (.lst [.ref q]) p2=some (.lst x)∧∃ x1,upd Ha pa (.lst [.ref q]) pa=some (.lst x1)∧x.length+x1.length≤sizeLine∧∀ pb,upd Ha pa (.lst [.ref q]) pb=none→R pb (upd (upd Ha pa (.lst [.ref q])) pb (.lst (x++x1))):=by
  refine ⟨by decide,fun pa fa=>⟨us,Same.new fa _ _ h2,[.ref q],upd_same,small5 (by show _+1≤_;omega),fun pb fb=>fin pb _ ((Same.new fa).free fb) ((Same.new fa).trans (Same.new fb)) ((Same.new fa).trans (new_del fb)) upd_same⟩⟩
theorem Its.trs {K:PySem.W.Frag}{N:List Str}{G G':Hp}{us ys:List V}{its:List (T × Nat)}(h:Its K N G us its)(l:ys.length=its.length)(e:∀ (i:Nat) y x,ys[i]?=some y→its[i]?=some x→TrAt K G' x.1 y):TrsAt K G' (Ts.ofL (its.map (·.1))) ys∧(Ts.ofL (its.map (·.1))).ok N∧(Ts.ofL (its.map (·.1))).toL.length=its.length:=by
  refine ⟨TrsAt.mk _ (by rw [List.length_map,l]) fun i u t hu ht=>?_,Ts.ok_ofL _ fun t ht=>?_,by rw [Ts.toL_ofL,List.length_map]⟩
  · rw [List.getElem?_map] at ht
    cases c:its[i]? with
    | none=>rw [c] at ht;cases ht
    | some x=>rw [c] at ht;cases ht;exact e i u x hu c
  · obtain ⟨x,hx,rfl⟩:=List.mem_map.mp ht
    obtain ⟨u,hu⟩:=h.mem hx
    exact hu.ok
theorem Its.trsDep {K:PySem.W.Frag}{N:List Str}{G:Hp}{us:List V}{its:List (T × Nat)}(h:Its K N G us its){d:Nat}(hd:∀ x∈its,x.2≤d):(Ts.ofL (its.map (·.1))).dep≤d:=by
  refine Ts.dep_ofL _ fun t ht=>?_
  obtain ⟨x,hx,rfl⟩:=List.mem_map.mp ht
  obtain ⟨u,hu⟩:=h.mem hx
  exact Nat.le_trans hu.dep (hd x hx)
section
variable {P:Program}{w:World}{K:PySem.W.Frag}{mg:Str→Option Value}{base:Heap}
theorem ok_built (B:Blt mg)(h_l_mixed:FnAt P w K mg base "_law_mixed" ["_law_cell","_law_k"] 1 spMixed)(h_l_cell_at:FnAt P w K mg base "_law_cell_at" ["_law_script","_law_k"] 1 (spCell K))(h_l_names:FnAt P w K mg base "_law_names" ["_law_script","_law_most"] 2 (spNames K))(h_l_leaf:FnAt P w K mg base "_law_leaf" ["_law_cell","_law_names_here","_law_wide"] 2 (spLeaf K))(d:DefAt K mg "_law_built" s_l_built ["_law_script","_law_most"]):FnAt P w K mg base "_law_built" ["_law_script","_law_most"] 3 (spBuilt K):=by
  refine FnAt.of d sc_l_built (fun vs H Q E h=>?_) (fun f cdv A outer s H vs Q E hr h=>?_)
  · obtain ⟨sc,ns,m,rfl,_⟩:=h
    rfl
  obtain ⟨sc,ns,m,rfl,hS,q⟩:=h
  refine ⟨_,(pss_cons (ps_set (i:=2) sc_l_built.nd rfl (by walk_at "l") (pe_cmpR op_eq (pe_op op_mod (pe_callF h_l_cell_at (hr.mono (by decide)) rfl (pa_cons (pv 0) (pa_cons pe_int pa_nil))) pe_int) pe_int (nomark _)))
      (pss_cons (ps_set (i:=3) sc_l_built.nd rfl (by walk_at "l") (pe_callF h_l_names (hr.mono (by decide)) rfl (pa_cons (pv 0) (pa_cons (pe_ix (ix_listK K) (pe_lst (pa_cons pe_int (pa_cons pe_int pa_nil))) (pe_callTy call_int1 rfl B.int boot_int (pa_cons (pv 2) pa_nil)) (fun _ _=>rfl)) pa_nil))))
      (pss_cons (ps_set (i:=4) sc_l_built.nd rfl (by walk_at "l") (pe_lst pa_nil))
      (pss_cons (ps_set (i:=5) sc_l_built.nd rfl (by walk_at "l") (pe_ix (ix_listK K) (pe_lst (pa_cons (pv 1) (pa_cons (pe_callB (call_min2 rfl) rfl B.min boot_minB (pa_cons (pv 1) (pa_cons pe_int pa_nil))) pa_nil))) (pe_callTy call_int1 rfl B.int boot_int (pa_cons (pv 2) pa_nil)) (fun _ _=>rfl)))
      (pss_cons (ps_set (i:=6) sc_l_built.nd rfl (by walk_at "l") pe_int)
      (pss_cons (ps_for PassesOwn.never rfl (pi_listK K (pe_slice (sl_listK K) (pv 0) (po_some pe_int) (po_some pe_int))) (pg_name (i:=7) sc_l_built.nd rfl (by walk_at "l")) (pss_cons (ps_set (i:=8) sc_l_built.nd rfl (by walk_at "l") (pe_callF h_l_mixed (hr.mono (by decide)) rfl (pa_cons (pv 7) (pa_cons pe_int pa_nil))))
      (pss_cons (ps_set (i:=9) sc_l_built.nd rfl (by walk_at "l") (pe_callB (call_min2 rfl) rfl B.min boot_minB (pa_cons (pe_callB (call_lenK K) rfl B.len PySem.boot_len (pa_cons (pv 4) pa_nil)) (pa_cons (pe_op op_add pe_int (pe_op op_mod (pe_op op_fdiv (pv 8) pe_int) pe_int)) pa_nil))))
      (pss_cons (ps_set (i:=10) sc_l_built.nd rfl (by walk_at "l") (pe_callBK (call_maxDK K) rfl B.max boot_maxB (pa_cons (pe_comp ["_law_item"] [] rfl (pi_listK K (pe_slice (sl_listK K) (pv 4) (po_some (pe_op op_sub (pe_callB (call_lenK K) rfl B.len PySem.boot_len (pa_cons (pv 4) pa_nil)) (pv 9))) po_none)) (fun _ _ _ _ _=>pg_name (i:=0) (by show List.Nodup (["_law_item"]:List Str);decide +kernel) rfl (Or.inl rfl)) (fun _ _ _ _ _=>pts_nil) (fun _ _ _ _ _=>(pe_ix (ix_tupK K) (pv 0) pe_int (fun _ _=>rfl))) trivial gOwn_name) pa_nil) (pk_cons pe_int pk_nil)))
      (pss_one (ps_if (PW.pt (pw_and (pt_cmpR op_gt (pe_op op_mod (pv 8) pe_int) pe_int (nomark _)) (pw_and (pt_cmpR op_gt (pv 9) pe_int (nomark _)) (pw_and1 (pt_cmpR op_lt (pv 10) pe_int (nomark _)))))) (pss_cons (ps_setcomp (i:=11) ["_law_item"] [] sc_l_built.nd rfl (by walk_at "l") rfl (pi_listK K (pe_slice (sl_listK K) (pv 4) (po_some (pe_op op_sub (pe_callB (call_lenK K) rfl B.len PySem.boot_len (pa_cons (pv 4) pa_nil)) (pv 9))) po_none)) (fun _ _ _ _ _=>pg_name (i:=0) (by show List.Nodup (["_law_item"]:List Str);decide +kernel) rfl (Or.inl rfl)) (fun _ _ _ _ _=>pts_nil) (fun _ _ _ _ _=>(pe_ix (ix_tupK K) (pv 0) pe_int (fun _ _=>rfl))) trivial gOwn_name)
      (pss_one (ps_set (i:=4) sc_l_built.nd rfl (by walk_at "l") (pe_op op_cat (pe_slice (sl_listK K) (pv 4) po_none (po_some (pe_op op_sub (pe_callB (call_lenK K) rfl B.len PySem.boot_len (pa_cons (pv 4) pa_nil)) (pv 9)))) (pe_lst (pa_cons (pe_tup (pa_cons (pe_tup (pa_cons (pe_ix (ix_listK K) (pe_lst (pa_cons pe_str (pa_cons pe_str pa_nil))) (pe_op op_mod (pe_op op_fdiv (pv 8) pe_int) pe_int) (fun _ _=>rfl)) (pa_cons (pv 11) pa_nil))) (pa_cons (pe_op op_add (pv 10) pe_int) pa_nil))) pa_nil)))))) (pss_one (ps_if (PW.pt (pw_and (pt_cmpR op_eq (pe_op op_mod (pv 8) pe_int) pe_int (nomark _)) (pw_and (pt_cmpR op_gt (pv 6) pe_int (nomark _)) (pw_and (pt_cmpR op_gt (pv 9) pe_int (nomark _)) (pw_and1 (pt_cmpR op_lt (pv 10) pe_int (nomark _))))))) (pss_cons (ps_set (i:=6) sc_l_built.nd rfl (by walk_at "l") (pe_op op_sub (pv 6) pe_int))
      (pss_one (ps_set (i:=4) sc_l_built.nd rfl (by walk_at "l") (pe_op op_cat (pe_slice (sl_listK K) (pv 4) po_none (po_some (pe_un un_neg pe_int))) (pe_lst (pa_cons (pe_tup (pa_cons (pe_tup (pa_cons pe_str (pa_cons (pe_ix (ix_tupK K) (pe_ix (ix_listK K) (pv 4) (pe_un un_neg pe_int) (fun _ _=>rfl)) pe_int (fun _ _=>rfl)) pa_nil))) (pa_cons (pe_op op_add (pe_ix (ix_tupK K) (pe_ix (ix_listK K) (pv 4) (pe_un un_neg pe_int) (fun _ _=>rfl)) pe_int (fun _ _=>rfl)) pe_int) pa_nil))) pa_nil)))))) (pss_one (ps_if (pt_cmpR op_gt (pv 5) pe_int (nomark _)) (pss_cons (ps_set (i:=5) sc_l_built.nd rfl (by walk_at "l") (pe_op op_sub (pv 5) pe_int))
      (pss_one (ps_expr (pe_bmK K PySem.F.plainAttrs_list PySem.F.slot_list_append PySem.F.type_list_append mt_append (pv 4) (pa_cons (pe_tup (pa_cons (pe_callF h_l_leaf (hr.mono (by decide)) rfl (pa_cons (pv 7) (pa_cons (pv 3) (pa_cons (pv 2) pa_nil)))) (pa_cons pe_int pa_nil))) pa_nil))))) pss_nil))))))))))
      (pss_cons (ps_if (pt_cmpR op_eq (pe_callB (call_lenK K) rfl B.len PySem.boot_len (pa_cons (pv 4) pa_nil)) pe_int (nomark _)) (pss_one (ps_ret (pe_ix (ix_tupK K) (pe_ix (ix_listK K) (pv 4) pe_int (fun _ _=>rfl)) pe_int (fun _ _=>rfl)))) pss_nil)
      (pss_cons (ps_if (pt_cmpR (op_eqD K (hu64 hr)) (pv 4) (pe_lst pa_nil) (nomark _)) (pss_one (ps_ret (pe_tup (pa_cons pe_str pa_nil)))) pss_nil)
      (pss_one (ps_ret (pe_tup (pa_cons (pe_ix (ix_listK K) (pe_lst (pa_cons pe_str (pa_cons pe_str pa_nil))) (pe_op op_mod (pe_callF h_l_cell_at (hr.mono (by decide)) rfl (pa_cons (pv 0) (pa_cons pe_int pa_nil))) pe_int) (fun _ _=>rfl)) (pa_cons (pe_comp ["_law_item"] [] rfl (pi_listK K (pv 4)) (fun _ _ _ _ _=>pg_name (i:=0) (by show List.Nodup (["_law_item"]:List Str);decide +kernel) rfl (Or.inl rfl)) (fun _ _ _ _ _=>pts_nil) (fun _ _ _ _ _=>(pe_ix (ix_tupK K) (pv 0) pe_int (fun _ _=>rfl))) trivial gOwn_name) pa_nil))))))))))))),?_⟩
  refine seq_step fun k hk=>?_
  walk_at "vc"
  refine ⟨sc,ns,1,rfl,hS,_,rfl,hk _ _ (seq_step fun k hk=>?_)⟩
  have eN:∀ b:Bool,b=decide (ns.getD 1 0%3=0)→(if b then 8 else 3)=mW ns:=fun b e=>by
    unfold mW
    rw [e]
    by_cases c:ns.getD 1 0%3=0
    · rw [decide_eq_true c,if_pos c];rfl
    · rw [decide_eq_false c,if_neg c];rfl
  generalize ew:decide (ns.getD 1 0%3=0)=wd at eN ⊢
  have eN:=eN wd rfl
  walk_at "vc"
  refine ⟨by decide,fun p0 h0=>⟨_,SqL.of upd_same,.int (mW ns),?_,sc,ns,mW ns,rfl,(Same.new h0).seq hS,?_,?_,fun a H1 s1 ha=>hk _ _ (seq_step fun k hk=>?_)⟩⟩
  · rw [← eN]
    cases wd
    · exact (rfl:atI [V.int 3,V.int 8] 0=some (.int 3))
    · exact (rfl:atI [V.int 3,V.int 8] 1=some (.int 8))
  · unfold mW;split<;>decide
  · unfold mW;split<;>decide
  have s1:=(Same.new (o:=.lst [V.int 3,V.int 8]) h0).trans s1
  have ha:H1 a=some (.lst ((nmW ns).map V.str)):=ha
  have hS1:=s1.seq hS
  clear eN h0
  walk_at "vc"
  refine ⟨Nat.zero_le _,fun p hp=>hk _ _ (seq_step fun k hk=>?_)⟩
  have s2:=Same.new (o:=.lst []) hp
  have h2:upd H1 p (.lst []) p=some (.lst []):=upd_same
  have nap:a≠p:=ne_of_none ha hp
  have ha2:=s2 _ _ ha
  have hS2:=s2.seq hS1
  have fp:=s1.free hp
  have s2:=s1.trans s2
  generalize upd H1 p (.lst [])=H2 at s2 h2 ha2 hS2 ⊢
  clear hS1 ha hp
  walk_at "vc"
  obtain ⟨lf,hlf⟩:∃ lf:Int,atI [V.int m,V.int (if 9<m then 9 else m)] (if wd=true then 1 else 0)=some (.int lf):=by cases wd<;>exact ⟨_,rfl⟩
  refine ⟨_,_,⟨rfl,rfl⟩,by decide,fun p1 h1=>⟨_,SqL.of upd_same,_,hlf,hk _ _ (seq_step fun k hk=>?_)⟩⟩
  have s3:=Same.new (o:=.lst [V.int m,V.int (if 9<m then 9 else m)]) h1
  have h3:=s3 _ _ h2
  have ha3:=s3 _ _ ha2
  have hS3:=s3.seq hS2
  have s3:=s2.trans s3
  generalize upd H2 p1 (.lst [V.int m,V.int (if 9<m then 9 else m)])=H3 at s3 h3 ha3 hS3 ⊢
  clear s2 h2 ha2 hS2 h1
  walk_at "vc"
  refine hk _ _ (seq_step fun k hk=>?_)
  walk_at "vc"
  refine ⟨_,hS3,fun c hc=>?_⟩
  obtain ⟨zs,ez,lz⟩:=cut60 ns
  rw [ez]
  have s4:=Same.new (o:=.lst (zs.map V.int)) hc
  have h4:=s4 _ _ h3
  have ha4:=s4 _ _ ha3
  have hc4:upd H3 c (.lst (zs.map V.int)) c=some (.lst (zs.map V.int)):=upd_same
  have nc:c≠p:=(ne_of_none h3 hc).symm
  have s4:=s3.trans s4
  generalize upd H3 c (.lst (zs.map V.int))=H4 at s4 h4 ha4 hc4 ⊢
  refine ⟨⟨_,SqL.of hc4⟩,loopL (K:=K) (xs:=zs.map V.int) (BI K (nmW ns) sc a c m wd zs H) ⟨⟨p,lf,6,[],[],_,_,_,_,_,rfl,h4,⟨rfl,fun i u x e=>by cases e⟩,Nat.le_refl _,Nat.le_refl _,fp,by rw [del_ne nap];exact ha4,by rw [del_ne nc];exact hc4⟩,s4⟩ (fun i σ H' _ h=>?_) ?_ ?_⟩
  · obtain ⟨⟨p,lf,no,us,its,_,_,_,_,_,_,_,_,_,_,_,_,hc⟩,_⟩:=h
    exact SqL.of (del_sub _ _ hc)
  · clear s4 h4 ha4 hc4 nc s3 h3 ha3 hS3 hc hlf fp nap
    rintro i x σ H5 hi ⟨⟨p,lf,no,us,its,v7,v8,v9,v10,v11,rfl,hp,hits,li,ni,fp,ha,hc⟩,s5⟩
    obtain ⟨z,hz,rfl⟩:∃ z,zs[i]?=some z∧x=V.int z:=by
      rw [List.getElem?_map] at hi
      cases e:zs[i]? with
      | none=>rw [e] at hi;cases hi
      | some z=>rw [e] at hi;cases hi;exact ⟨z,rfl,rfl⟩
    rw [gName_ap]
    refine seq_step fun k hk=>?_
    walk_at "vc"
    refine ⟨_,_,rfl,hk _ _ (seq_step fun k hk=>?_)⟩
    generalize mixI z 1=y
    walk_at "vc"
    refine ⟨_,.inl (SqL.of hp),_,_,⟨rfl,rfl⟩,?_⟩
    obtain ⟨mn,emn,lmn⟩:∃ mn:Nat,(if 2+y/8%3<(us.length:Int) then 2+y/8%3 else (us.length:Int))=(mn:Int)∧mn≤us.length:=by
      split
      · exact ⟨(2+y/8%3).toNat,by omega,by omega⟩
      · exact ⟨us.length,rfl,Nat.le_refl _⟩
    rw [emn]
    refine hk _ _ (seq_step fun k hk=>?_)
    clear emn
    have esub:((us.length:Int)-(mn:Int))=((us.length-mn:Nat):Int):=by omega
    walk_at "vc"
    refine ⟨_,.inl (SqL.of hp),_,SqL.of hp,fun p6 h6=>?_⟩
    rw [esub,cutV_from us (by omega)]
    have s6:=Same.new (o:=.lst (us.drop (us.length-mn))) h6
    refine ⟨⟨_,SqL.of upd_same⟩,comp_snd (hits.drop (us.length-mn)) (del_sub.trans s6) (SqL.of upd_same) (by rw [List.length_drop,hits.len];have:=lz;have:=(List.getElem?_eq_some_iff.mp hz).1;omega) fun D H7 s7 h7=>⟨D,rfl,_,SqL.of h7,?_⟩⟩
    obtain ⟨dp,edp,hdp⟩:=max_of ((its.drop (us.length-mn)).map (·.2))
    rw [List.map_map] at edp
    have edp:((its.drop (us.length-mn)).map fun x=>(x.2:Int)).max?.getD 0=(dp:Int):=edp
    rw [edp]
    have s7:=s6.trans s7
    have hp:=s7 _ _ hp
    have hits:=hits.same (del_mn (p:=p) s7)
    have ha:=del_mn (p:=p) s7 _ _ ha
    have hc:=del_mn (p:=p) s7 _ _ hc
    have s5:=s5.trans s7
    clear h7 s7 s6 edp h6 esub
    have zl:=(List.getElem?_eq_some_iff.mp hz).1
    refine hk _ _ (if_step fun kb hkb=>?_)
    have el : kb [some (.ref sc),some (.int m),some (.bl wd),some (.ref a),some (.ref p),some (.int lf),some (.int no),some (.int z),some (.int y),some (.int mn),some (.int dp),v11] H7:=by
      refine hkb _ _ (if_step fun kb hkb=>?_)
      have el:kb [some (.ref sc),some (.int m),some (.bl wd),some (.ref a),some (.ref p),some (.int lf),some (.int no),some (.int z),some (.int y),some (.int mn),some (.int dp),v11] H7:=by
        refine hkb _ _ ?_
        walk_at "vc"
        by_cases c1:0<lf
        · rw [if_pos c1]
          refine ⟨⟨_,SqL.of hp⟩,z,a,nmW ns,wd,rfl,SqL.of (del_sub _ _ ha),nms_len _ _,fun t v H8 s8 t8 d8 o8 n8=>⟨by decide,fun p9 h9=>?_⟩⟩
          have s9:=s8.trans (Same.new (o:=.tup [v,V.int 1]) h9)
          have np:p9≠p:=(ne_of_none (s8 _ _ hp) h9).symm
          refine ⟨us,s9 _ _ hp,small5' (by rw [hits.len];omega),⟨p,lf-1,no,us++[.ref p9],its++[(t,1)],_,_,_,_,_,rfl,upd_same,(hits.same (del_put s9)).snoc ⟨⟨p9,v,rfl,.inl (.inl ?_),TrAt.same (new_put hp (Same.new h9)) _ t8⟩,d8,(by decide:1≤18),o8⟩,by rw [List.length_append];exact Nat.succ_le_succ li,by rw [nsum_app,nsum_one];show _+t.nums.length≤_;omega,fp,del_put s9 _ _ ha,del_put s9 _ _ hc⟩,(s5.trans s9).put fp⟩
          rw [del_ne np,upd_ne np]
          exact upd_same
        · rw [if_neg c1]
          exact ⟨⟨p,lf,no,us,its,_,_,_,_,_,rfl,hp,hits,by omega,by omega,fp,ha,hc⟩,s5⟩
      walk_at "vc"
      by_cases c1:y%8=5
      · rw [if_pos c1]
        by_cases c2:0<no
        · rw [if_pos c2]
          by_cases c3:0<(mn:Int)
          · rw [if_pos c3]
            by_cases c4:(dp:Int)<17
            · rw [if_pos c4]
              have ul:us.length-1<us.length:=by omega
              have gu:=List.getElem?_eq_getElem ul
              obtain ⟨x,gx⟩:∃ x,its[us.length-1]?=some x:=⟨_,List.getElem?_eq_getElem (by rw [← hits.len];exact ul)⟩
              have eu:us=us.take (us.length-1)++[us[us.length-1]]:=by
                rw [List.take_append_getElem,Nat.sub_add_cancel (by omega),List.take_length]
              have al:atI us (-1)=some us[us.length-1]:=by
                have:=atI_last (us.take (us.length-1)) us[us.length-1]
                rw [← eu] at this
                exact this
              generalize eux:us[us.length-1]=u at gu al eu
              have hx:=hits.it _ _ _ gu gx
              have dx:x.2≤dp:=by
                refine hdp _ (List.mem_map.mpr ⟨x,List.mem_of_getElem? (i:=mn-1) ?_,rfl⟩)
                rw [List.getElem?_drop,show us.length-mn+(mn-1)=us.length-1 by omega]
                exact gx
              obtain ⟨⟨q0,v,rfl,h1,h2⟩,xd,xt,xo⟩:=hx
              refine ⟨_,SqL.of hp,fun p1 f1=>⟨_,SqL.of (Same.new f1 _ _ hp),_,al,q0,rfl,_,sqT_same (del_sub.trans (Same.new f1)) h1,_,rfl,by decide,fun p3 f3=>⟨_,SqL.of (((Same.new f1).trans (Same.new f3)) _ _ hp),_,al,q0,rfl,_,sqT_same (del_sub.trans ((Same.new f1).trans (Same.new f3))) h1,_,rfl,_,rfl,by decide,fun p4 f4=>?_⟩⟩⟩
              have S:=((Same.new (o:=.lst (cutV us none (some (-1)))) f1).trans (Same.new (o:=.tup [V.str (Str.ofString "not"),v]) f3)).trans (Same.new (o:=.tup [V.ref p3,V.int ((x.2:Int)+2)]) f4)
              have hl:upd (upd (upd H7 p1 (.lst (cutV us none (some (-1))))) p3 (.tup [V.str (Str.ofString "not"),v])) p4 (.tup [V.ref p3,V.int ((x.2:Int)+2)]) p1=some (.lst (us.take (us.length-1))):=((Same.new f3).trans (Same.new f4)) _ _ (by rw [upd_same,cutV_last])
              have t3:TrAt K (upd (upd (upd H7 p1 (.lst (cutV us none (some (-1))))) p3 (.tup [V.str (Str.ofString "not"),v])) p4 (.tup [V.ref p3,V.int ((x.2:Int)+2)])) (.opp x.1) (.ref p3):=⟨p3,v,rfl,.inl (.inl (Same.new f4 _ _ upd_same)),TrAt.same (del_sub.trans S) _ h2⟩
              have h4:upd (upd (upd H7 p1 (.lst (cutV us none (some (-1))))) p3 (.tup [V.str (Str.ofString "not"),v])) p4 (.tup [V.ref p3,V.int ((x.2:Int)+2)]) p4=some (.tup [V.ref p3,V.int ((x.2+2:Nat):Int)]):=upd_same
              generalize upd (upd (upd H7 p1 (.lst (cutV us none (some (-1))))) p3 (.tup [V.str (Str.ofString "not"),v])) p4 (.tup [V.ref p3,V.int ((x.2:Int)+2)])=Ha at S hl t3 h4 ⊢
              have nx:nsum its=nsum (its.take (us.length-1))+x.1.nums.length:=by
                rw [← nsum_cut its (us.length-1),List.drop_eq_getElem_cons (by rw [← hits.len];exact ul),List.drop_of_length_le (by rw [hits.len];omega),nsum_one]
                rw [List.getElem?_eq_getElem (by rw [← hits.len];exact ul)] at gx
                cases gx
                rfl
              have it:It K (nmW ns) Ha (.ref p4) (.opp x.1,x.2+2):=⟨⟨p4,_,rfl,.inl (.inl h4),t3⟩,by show x.1.dep+1≤x.2+2;omega,by show x.2+2≤18;omega,xo⟩
              refine cat_end (fun pb H'=>BI K (nmW ns) sc a c m wd zs H (i+1) [some (.ref sc),some (.int m),some (.bl wd),some (.ref a),some (.ref pb),some (.int lf),some (.int (no-1)),some (.int z),some (.int y),some (.int mn),some (.int dp),v11] H') hl (by rw [List.length_take,hits.len];omega) fun pb H' fb sb db hb=>?_
              have mv:=del_mv (p:=p) (S.trans sb) (S.free fb)
              exact ⟨⟨pb,lf,no-1,_,its.take (us.length-1)++[(.opp x.1,x.2+2)],_,_,_,_,_,rfl,hb,((hits.take (us.length-1)).same mv).snoc (it.same db),by rw [List.length_append,List.length_take];show _+1≤_;omega,by rw [nsum_app,nsum_one];show _+x.1.nums.length≤_;omega,s5.free (S.free fb),mv _ _ ha,mv _ _ hc⟩,s5.trans (S.trans sb)⟩
            · rw [if_neg c4]
              exact el
          · rw [if_neg c3]
            exact el
        · rw [if_neg c2]
          exact el
      · rw [if_neg c1]
        exact el
    walk_at "vc"
    by_cases c1:5<y%8
    · rw [if_pos c1]
      by_cases c2:1<(mn:Int)
      · rw [if_pos c2]
        by_cases c3:(dp:Int)<18
        · rw [if_pos c3]
          refine ⟨_,.inl (SqL.of hp),_,SqL.of hp,fun p1 f1=>?_⟩
          have esub:((us.length:Int)-(mn:Int))=((us.length-mn:Nat):Int):=by omega
          rw [esub,cutV_from us (by omega)]
          have s8:=Same.new (o:=.lst (us.drop (us.length-mn))) f1
          refine ⟨⟨_,SqL.of upd_same⟩,comp_fst (hits.drop (us.length-mn)) (del_sub.trans s8) (SqL.of upd_same) (by rw [List.length_drop,hits.len];omega) fun D ys H9 hD s9 h9 l9 t9=>?_⟩
          have s9:=s8.trans s9
          refine ⟨_,.inl (SqL.of (s9 _ _ hp)),_,SqL.of (s9 _ _ hp),fun p2 f2=>⟨by decide,fun p3 f3=>⟨_,SqL.of upd_same,?_⟩⟩⟩
          rw [esub,cutV_to us (by omega)]
          rw [esub,cutV_to us (by omega)] at f3
          obtain ⟨w,t,hw,ht1,ht2,ht3,ht4⟩:=andor (K:=K) (N:=nmW ns) (Ts.ofL ((its.drop (us.length-mn)).map (·.1))) (z:=y/24%2) (by omega)
          refine ⟨_,hw,by decide,fun p4 f4=>⟨by decide,fun p5 f5=>?_⟩⟩
          have S:=(((s9.trans (Same.new (o:=.lst (us.take (us.length-mn))) f2)).trans (Same.new (o:=.lst [V.str (Str.ofString "and"),V.str (Str.ofString "or")]) f3)).trans (Same.new (o:=.tup [V.str w,V.ref D]) f4)).trans (Same.new (o:=.tup [V.ref p4,V.int ((dp:Int)+1)]) f5)
          have S9:=(((Same.new (o:=.lst (us.take (us.length-mn))) f2).trans (Same.new (o:=.lst [V.str (Str.ofString "and"),V.str (Str.ofString "or")]) f3)).trans (Same.new (o:=.tup [V.str w,V.ref D]) f4)).trans (Same.new (o:=.tup [V.ref p4,V.int ((dp:Int)+1)]) f5)
          have hl:upd (upd (upd (upd H9 p2 (.lst (us.take (us.length-mn)))) p3 (.lst [V.str (Str.ofString "and"),V.str (Str.ofString "or")])) p4 (.tup [V.str w,V.ref D])) p5 (.tup [V.ref p4,V.int ((dp:Int)+1)]) p2=some (.lst (us.take (us.length-mn))):=(((Same.new f3).trans (Same.new f4)).trans (Same.new f5)) _ _ upd_same
          have h4:upd (upd (upd (upd H9 p2 (.lst (us.take (us.length-mn)))) p3 (.lst [V.str (Str.ofString "and"),V.str (Str.ofString "or")])) p4 (.tup [V.str w,V.ref D])) p5 (.tup [V.ref p4,V.int ((dp:Int)+1)]) p4=some (.tup [V.str w,V.ref D]):=Same.new f5 _ _ upd_same
          have h5:upd (upd (upd (upd H9 p2 (.lst (us.take (us.length-mn)))) p3 (.lst [V.str (Str.ofString "and"),V.str (Str.ofString "or")])) p4 (.tup [V.str w,V.ref D])) p5 (.tup [V.ref p4,V.int ((dp:Int)+1)]) p5=some (.tup [V.ref p4,V.int ((dp+1:Nat):Int)]):=upd_same
          have hD9:=S9 _ _ h9
          generalize upd (upd (upd (upd H9 p2 (.lst (us.take (us.length-mn)))) p3 (.lst [V.str (Str.ofString "and"),V.str (Str.ofString "or")])) p4 (.tup [V.str w,V.ref D])) p5 (.tup [V.ref p4,V.int ((dp:Int)+1)])=Ha at S hl h4 h5 hD9 ⊢
          have dr:=hits.drop (us.length-mn)
          obtain ⟨tr,tk,tl⟩:=dr.trs (G':=Ha) l9 fun i y x hy hx=>TrAt.same (del_sub.trans S) _ (t9 i y x hy hx)
          have td:=dr.trsDep (d:=dp) fun x hx=>hdp _ (List.mem_map.mpr ⟨x,hx,rfl⟩)
          have nx:=nsum_cut its (us.length-mn)
          have nn:t.nums.length=nsum (its.drop (us.length-mn)):=by rw [ht4,nums_sum]
          have dl:(its.drop (us.length-mn)).length≤60:=by rw [List.length_drop];omega
          have it:It K (nmW ns) Ha (.ref p5) (t,dp+1):=⟨⟨p5,_,rfl,.inl (.inl h5),ht1 _ _ _ _ (.inl (.inl h4)) (SqL.of hD9) tr⟩,by show t.dep≤dp+1;rw [ht2];omega,by show dp+1≤18;omega,ht3 (by rw [tl];omega) tk⟩
          refine cat_end (fun pb H'=>BI K (nmW ns) sc a c m wd zs H (i+1) [some (.ref sc),some (.int m),some (.bl wd),some (.ref a),some (.ref pb),some (.int lf),some (.int no),some (.int z),some (.int y),some (.int mn),some (.int dp),some (.ref D)] H') hl (by rw [List.length_take,hits.len];omega) fun pb H' fb sb db hb=>?_
          have mv:=del_mv (p:=p) (S.trans sb) (S.free fb)
          have c2':1<mn:=by omega
          exact ⟨⟨pb,lf,no,_,its.take (us.length-mn)++[(t,dp+1)],_,_,_,_,_,rfl,hb,((hits.take (us.length-mn)).same mv).snoc (it.same db),by rw [List.length_append,List.length_take];show _+1≤_;omega,by rw [nsum_app,nsum_one];show _+t.nums.length≤_;omega,s5.free (S.free fb),mv _ _ ha,mv _ _ hc⟩,s5.trans (S.trans sb)⟩
        · rw [if_neg c3]
          exact el
      · rw [if_neg c2]
        exact el
    · rw [if_neg c1]
      exact el
  · rintro σ H5 ⟨⟨p,lf,no,us,its,v7,v8,v9,v10,v11,rfl,hp,hits,li,ni,fp,ha,hc⟩,s5⟩
    have li:its.length≤60:=by rw [List.length_map] at li;omega
    have ni:nsum its≤120:=by rw [List.length_map] at ni;omega
    refine hk _ _ (seq_step fun k hk=>?_)
    walk_at "vc"
    refine ⟨_,.inl (SqL.of hp),?_⟩
    by_cases c1:(us.length:Int)=1
    · rw [if_pos c1]
      have ul:0<us.length:=by omega
      have gu:=List.getElem?_eq_getElem ul
      have gx:=List.getElem?_eq_getElem (l:=its) (i:=0) (by rw [← hits.len];exact ul)
      have e1:its=[its[0]'(by rw [← hits.len];exact ul)]:=by
        match its,hits.len,c1 with
        | [x],_,_=>rfl
        | [],l,c=>rw [l] at c;exact absurd c (by decide)
        | _::_::_,l,c=>rw [l] at c;simp at c;omega
      generalize its[0]'(by rw [← hits.len];exact ul)=x at gx e1
      obtain ⟨⟨q0,v,eu,h1,h2⟩,xd,xt,xo⟩:=hits.it _ _ _ gu gx
      have xn:x.1.nums.length≤120:=by rw [e1,nsum_one] at ni;exact ni
      exact ⟨_,SqL.of hp,_,atI_nat (j:=0) gu,q0,eu,_,sqT_same del_sub h1,_,rfl,q x.1 v H5 s5 (TrAt.same del_sub _ h2) xo (by omega) xn⟩
    rw [if_neg c1]
    refine hk _ _ (seq_step fun k hk=>?_)
    walk_at "vc"
    refine ⟨Nat.zero_le _,fun p8 f8=>?_⟩
    have s8:=Same.new (o:=.lst []) f8
    refine rEqD_nil (n:=40) (us:=us) (by decide) (fun u hu=>?_) (SqL.of (s8 _ _ hp)) (SqL.of upd_same) ?_
    · obtain ⟨i,hi⟩:=List.getElem?_of_mem hu
      have hl:=(List.getElem?_eq_some_iff.mp hi).1
      obtain ⟨⟨q0,v,rfl,h1,h2⟩,xd,xt,xo⟩:=hits.it i u _ hi (List.getElem?_eq_getElem (by rw [← hits.len];exact hl))
      obtain ⟨d1,k1,k2,k3⟩:=TrAt.rd (nms_ok _ _) _ (TrAt.same (del_sub.trans s8) _ h2) xo
      refine ⟨_,.tup (sqT_same (del_sub.trans s8) h1) (.cons k1 (.cons (.int _) .nil)),lay_tup (lay_cons k2 (lay_cons lay_int lay_nil)),?_⟩
      rw [dep_tup,dep_cons,dep_cons,dep_int,dep_nil]
      omega
    refine ⟨_,rfl,?_⟩
    by_cases c2:us.isEmpty=true
    · rw [if_pos c2]
      exact ⟨by decide,fun p9 f9=>q .ev _ _ ((s5.trans s8).trans (Same.new f9)) ⟨p9,rfl,.inl (.inl upd_same)⟩ trivial (Nat.zero_le _) (Nat.zero_le _)⟩
    rw [if_neg c2]
    have hp:=s8 _ _ hp
    have hits:=hits.same (del_mn (p:=p) s8)
    have s5:=s5.trans s8
    generalize upd H5 p8 (.lst [])=H8 at hp hits s5 ⊢
    refine hk _ _ ?_
    walk_at "vc"
    refine ⟨by decide,fun pa fa=>⟨sc,ns,2,rfl,(s5.trans (Same.new fa)).seq hS,_,rfl,_,SqL.of upd_same,?_⟩⟩
    have sa:=Same.new (o:=.lst [V.str (Str.ofString "and"),V.str (Str.ofString "or")]) fa
    obtain ⟨w,t,hw,ht1,ht2,ht3,ht4⟩:=andor (K:=K) (N:=nmW ns) (Ts.ofL (its.map (·.1))) (z:=ns.getD 2 0%2) (by omega)
    refine ⟨_,hw,⟨_,SqL.of (sa _ _ hp)⟩,comp_fst hits (del_sub.trans sa) (SqL.of (sa _ _ hp)) (by rw [hits.len];omega) fun D ys H9 hD s9 h9 l9 t9=>⟨by decide,fun pb fb=>?_⟩⟩
    have S:=(sa.trans s9).trans (Same.new (o:=.tup [V.str w,V.ref D]) fb)
    obtain ⟨tr,tk,tl⟩:=hits.trs (G':=upd H9 pb (.tup [V.str w,V.ref D])) l9 fun i y x hy hx=>TrAt.same (del_sub.trans S) _ (t9 i y x hy hx)
    have td:=hits.trsDep (d:=18) fun x hx=>(hits.mem hx).choose_spec.top
    exact q t _ _ (s5.trans S) (ht1 _ _ _ _ (.inl (.inl upd_same)) (SqL.of (Same.new fb _ _ h9)) tr) (ht3 (by rw [tl];omega) tk) (by rw [ht2];omega) (by rw [ht4,nums_sum];exact ni)
end
def spLaw (K:PySem.W.Frag):Sp:=fun vs H Q _=>∃ (a:Addr) (ns:List Int),vs=[.ref a]∧SqL K H a (ns.map V.int)∧ns.length≤63∧∀ H',Q (.bl true) H'
structure LwR (K:PySem.W.Frag)(sc tr nm qu nu ro:V)(H:Hp)(σ:L2.St)(H':Hp):Prop where
  ex:∃ v6 v7 v8,σ=[some sc,some tr,some nm,some qu,some nu,some ro,v6,v7,v8]
  sm:Same H H'
def RwAt (N:List Str)(G:Hp)(y:V):Prop:=∃ p kvs,y=.ref p∧G p=some (.dK kvs)∧VG N 3 kvs
theorem RwAt.same {N:List Str}{G G':Hp}{y:V}(h:RwAt N G y)(s:Same G G'):RwAt N G' y:=by
  obtain ⟨p,kvs,e,h1,h2⟩:=h
  exact ⟨p,kvs,e,s _ _ h1,h2⟩
section
variable {P:Program}{w:World}{K:PySem.W.Frag}{mg:Str→Option Value}{base:Heap}{C:Kd→Addr}
theorem ok_law (B:Blt mg)(h_l_cell_at:FnAt P w K mg base "_law_cell_at" ["_law_script","_law_k"] 1 (spCell K))(h_l_built:FnAt P w K mg base "_law_built" ["_law_script","_law_most"] 3 (spBuilt K))(h_l_names:FnAt P w K mg base "_law_names" ["_law_script","_law_most"] 2 (spNames K))(h_l_made:∀ N,FnAt P w K mg base "_law_made" ["_law_tree"] 23 (spMade K C N 20))(h_l_numbers_in:FnAt P w K mg base "_law_numbers_in" ["_law_tree"] 21 (spNums K 20))(h_l_values:FnAt P w K mg base "_law_values" ["_law_names_here","_law_numbers","_law_cell"] 2 (spVals K))(h_l_holds:∀ N,(∀ x∈N,PyData.strOk x=true)→FnAt P w K mg base "_law_holds" ["_law_tree","_law_values_here"] 21 (spLHolds K N 20))(h_holds:∀ N k,MethAt P w K mg base (C k) "holds" ["self","values"] 31 (spHolds C N 30 k))
    {fa:Addr} {fd:FuncData} (FL:Fun K "law" "law" s_law fa fd):FnOk P w K mg base CX0 33 fa fd ["_law_script"] (spLaw K):=by
  refine FL.ok sc_law (fun vs H Q E h=>?_) (fun cdv A outer s H vs Q E hr h=>?_)
  · obtain ⟨a,ns,rfl,_⟩:=h
    rfl
  obtain ⟨sc,ns,rfl,hS,h63,q⟩:=h
  have h_l_made:=h_l_made (nmW ns)
  have h_l_holds:=h_l_holds (nmW ns) (nms_ok _ _)
  have h_holds:=h_holds (nmW ns)
  refine ⟨_,(pss_cons (ps_set (i:=1) sc_law.nd rfl (by walk_at "l") (pe_callF h_l_built (hr.mono (by decide)) rfl (pa_cons (pv 0) (pa_cons pe_int pa_nil))))
      (pss_cons (ps_set (i:=2) sc_law.nd rfl (by walk_at "l") (pe_callF h_l_names (hr.mono (by decide)) rfl (pa_cons (pv 0) (pa_cons (pe_ix (ix_listK K) (pe_lst (pa_cons pe_int (pa_cons pe_int pa_nil))) (pe_callTy call_int1 rfl B.int boot_int (pa_cons (pe_cmpR op_eq (pe_op op_mod (pe_callF h_l_cell_at (hr.mono (by decide)) rfl (pa_cons (pv 0) (pa_cons pe_int pa_nil))) pe_int) pe_int (nomark _)) pa_nil)) (fun _ _=>rfl)) pa_nil))))
      (pss_cons (ps_set (i:=3) sc_law.nd rfl (by walk_at "l") (pe_callF h_l_made (hr.mono (by decide)) rfl (pa_cons (pv 1) pa_nil)))
      (pss_cons (ps_set (i:=4) sc_law.nd rfl (by walk_at "l") (pe_callF h_l_numbers_in (hr.mono (by decide)) rfl (pa_cons (pv 1) pa_nil)))
      (pss_cons (ps_setcomp (i:=5) ["_law_k"] [2,4,0] sc_law.nd rfl (by walk_at "l") rfl (pi_range1 rfl B.range (pa_cons pe_int pa_nil)) (fun _ _ _ _ _=>pg_name (i:=0) (by show List.Nodup (["_law_k","_law_names_here","_law_numbers","_law_script"]:List Str);decide +kernel) rfl (Or.inl rfl)) (fun _ _ _ _ _=>pts_nil) (fun _ _ _ _ _=>(pe_callF h_l_values (hr.mono (by decide)) rfl (pa_cons (pv 1) (pa_cons (pv 2) (pa_cons (pe_op op_add (pe_callF h_l_cell_at (hr.mono (by decide)) rfl (pa_cons (pv 3) (pa_cons (pv 0) pa_nil))) (pv 0)) pa_nil))))) ⟨⟨_,rfl,rfl,.inl rfl⟩,⟨⟨_,rfl,rfl,.inl rfl⟩,⟨⟨_,rfl,rfl,.inl rfl⟩,trivial⟩⟩⟩ gOwn_name)
      (pss_cons (ps_for PassesOwn.never rfl (pi_listK K (pe_op op_cat (pv 5) (pe_slice (sl_listK K) (pv 5) po_none (po_some pe_int)))) (pg_name (i:=6) sc_law.nd rfl (by walk_at "l")) (pss_cons (ps_set (i:=7) sc_law.nd rfl (by walk_at "l") (pe_callTy call_dictOf rfl B.dct L2.boot_dict (pa_cons (pv 6) pa_nil)))
      (pss_cons (ps_set (i:=8) sc_law.nd rfl (by walk_at "l") (pe_meD (P:=P) (w:=w) (K:=K) (mg:=mg) (base:=base) 31 (hr.mono (by omega)) (pv 3) (pa_cons (pv 7) pa_nil)))
      (pss_one (ps_if (PW.pt (pw_or (pt_not (pt_val (pe_callB (call_isiK K) rfl B.isi boot_isi (pa_cons (pv 8) (pa_cons (pe_bltn (v:=.ty "bool") rfl B.bool boot_bool rfl) pa_nil))))) (pw_or (pt_cmpR op_ne (pv 8) (pe_callF h_l_holds (hr.mono (by decide)) rfl (pa_cons (pv 1) (pa_cons (pv 6) pa_nil))) (nomark _)) (pw_or1 (pt_cmpR (op_neK (hu1 hr)) (pv 7) (pv 6) (nomark _)))))) (pss_one (ps_ret pe_bl)) pss_nil)))))
      (pss_one (ps_ret pe_bl)))))))),?_⟩
  refine seq_step fun k hk=>?_
  walk_at "vc"
  refine ⟨sc,ns,16,rfl,hS,fun t v H1 s1 t1 o1 d1 n1=>hk _ _ (seq_step fun k hk=>?_)⟩
  have hS1:=s1.seq hS
  walk_at "vc"
  refine ⟨by decide,fun p0 h0=>⟨sc,ns,1,rfl,(Same.new h0).seq hS1,_,rfl,_,SqL.of upd_same,.int (mW ns),?_,sc,ns,mW ns,rfl,(Same.new h0).seq hS1,?_,?_,fun a H2 s2 ha=>hk _ _ (seq_step fun k hk=>?_)⟩⟩
  · unfold mW
    split
    · exact (rfl:atI [V.int 3,V.int 8] 1=some (.int 8))
    · exact (rfl:atI [V.int 3,V.int 8] 0=some (.int 3))
  · unfold mW;split<;>decide
  · unfold mW;split<;>decide
  have s2:=(Same.new (o:=.lst [V.int 3,V.int 8]) h0).trans s2
  have t2:=TrAt.same s2 _ t1
  have hS2:=s2.seq hS1
  have ha:H2 a=some (.lst ((nmW ns).map V.str)):=ha
  clear s1 t1 hS1 h0 s2
  walk_at "vc"
  refine ⟨t,v,rfl,t2,o1,by omega,fun qu H3 s3 q3=>hk _ _ (seq_step fun k hk=>?_)⟩
  have q3:=QAt.same New.sub _ q3
  have t3:=TrAt.same s3 _ t2
  have hS3:=s3.seq hS2
  have ha3:=s3 _ _ ha
  clear t2 hS2 ha s3
  walk_at "vc"
  refine ⟨t,v,rfl,t3,by omega,by omega,fun nu H4 s4 h4=>hk _ _ (seq_step fun k hk=>?_)⟩
  have q4:=QAt.same s4 _ q3
  have t4:=TrAt.same s4 _ t3
  have hS4:=s4.seq hS3
  have ha4:=s4 _ _ ha3
  clear t3 hS3 ha3 s4 q3
  walk_at "vc"
  refine compAR (fun _ y G=>RwAt (nmW ns) G y) (fun _ _ _ _ s h=>h.same s) (by decide) (fun i H5 R hi s5 r5=>?_) (fun D ys H5 hD s5 h5 l5 r5=>?_)
  · walk_at "vc"
    refine ⟨sc,ns,_,rfl,s5.seq hS4,_,rfl,a,nu,nmW ns,t.nums,_,rfl,SqL.of (s5 _ _ ha4),nms_len _ _,SqL.of (s5 _ _ h4),by omega,fun p kvs H6 s6 f6 h6 vg=>r5 _ _ s6 ⟨p,kvs,rfl,New.of f6 h6,vg⟩⟩
  refine hk _ _ (seq_step fun k hk=>?_)
  have r5:∀ y∈ys,RwAt (nmW ns) H5 y:=fun y hy=>by
    obtain ⟨j,hj⟩:=List.getElem?_of_mem hy
    exact (r5 j y hj).same (del_sub.trans New.sub)
  have q5:=QAt.same s5 _ q4
  have t5:=TrAt.same s5 _ t4
  clear q4 t4 hS4 ha4 h4 s5 hD
  walk_at "vc"
  refine ⟨_,SqL.of h5,fun p1 f1=>⟨ys,Same.new f1 _ _ h5,_,upd_same,small5 ?_,fun p2 f2=>?_⟩⟩
  · have:=cutV_length ys none (some 2)
    omega
  have s6:=(Same.new (o:=.lst (cutV ys none (some 2))) f1).trans (Same.new (o:=.lst (ys++cutV ys none (some 2))) f2)
  have h6:upd (upd H5 p1 (.lst (cutV ys none (some 2)))) p2 (.lst (ys++cutV ys none (some 2))) p2=some (.lst (ys++cutV ys none (some 2))):=upd_same
  generalize upd (upd H5 p1 (.lst (cutV ys none (some 2)))) p2 (.lst (ys++cutV ys none (some 2)))=H6 at s6 h6 ⊢
  have r6:∀ y∈ys++cutV ys none (some 2),RwAt (nmW ns) H6 y:=fun y hy=>by
    refine (r5 y ?_).same s6
    rcases List.mem_append.mp hy with h | h
    · exact h
    · exact List.mem_of_mem_drop (List.mem_of_mem_take h)
  have q6:=QAt.same s6 _ q5
  have t6:=TrAt.same s6 _ t5
  clear r5 q5 t5 s6 h5
  obtain ⟨pq,dq,fq,rfl,hq,lq⟩:=QAt.obj t q6
  refine ⟨⟨_,SqL.of h6⟩,loopL (K:=K) (xs:=ys++cutV ys none (some 2)) (fun _=>LwR K (.ref sc) v (.ref a) (.ref pq) (.ref nu) (.ref D) H6) ⟨⟨_,_,_,rfl⟩,Same.refl _⟩ (fun i σ H' _ h=>SqL.of (h.sm _ _ h6)) ?_ ?_⟩
  · rintro i y σ H7 hy ⟨⟨v6,v7,v8,rfl⟩,s7⟩
    obtain ⟨pr,kvs,rfl,hr',vg⟩:=(r6 y (List.mem_of_getElem? hy)).same s7
    have vo:=vg.ok (nms_len _ _)
    rw [gName_ap]
    refine seq_step fun k hk=>?_
    walk_at "vc"
    refine ⟨_,hr',fun ph fh=>hk _ _ (seq_step fun k hk=>?_)⟩
    have s8:=Same.new (o:=.dK kvs) fh
    have h8:upd H7 ph (.dK kvs) ph=some (.dK kvs):=upd_same
    have r8:=s8 _ _ hr'
    have s8:=s7.trans s8
    generalize upd H7 ph (.dK kvs)=H8 at s8 h8 r8 ⊢
    walk_at "vc"
    refine ⟨_,_,_,s8 _ _ hq,lq,_,_,h_holds t.kd,t,_,ph,kvs,vAt kvs,rfl,rfl,QAt.same s8 _ q6,o1,by omega,h8,vo,fun H9 s9=>hk _ _ ?_⟩
    have h9:=s9 _ _ h8
    have r9:=s9 _ _ r8
    have s9:=s8.trans s9
    walk_at "vc"
    refine ⟨t,v,pr,kvs,vAt kvs,rfl,TrAt.same s9 _ t6,o1,by omega,r9,vo,fun H10 s10=>⟨by simp [scal],?_⟩⟩
    rw [if_pos rfl]
    exact ⟨kvs,s10 _ _ h9,s10 _ _ r9,vg.nd,vg.isI,⟨_,_,_,rfl⟩,s9.trans s10⟩
  · rintro σ H7 ⟨⟨v6,v7,v8,rfl⟩,s7⟩
    refine hk _ _ ?_
    walk_at "vc"
    exact q _
end
theorem law_mk {K:PySem.W.Frag}{h:Heap}{mg:Str→Option Value}{fa f:Addr}{oc:Value}{od an:Option Addr}{osl:Array (Option Value)}{kV doc pm cdv ct:Value}(X:K.In h)(G:h.Ns mainGlobals mg)(hfa:mg "law"=some (.ref fa))(a:PySem.W.nsIn K mainGlobals "law"=some (some (.ref f)))
    (l:K.lookup f=some ⟨oc,od,.func (PySem.W.fnOf "law" "law" (defArgs s_law) (defBody s_law) (defScope s_law) .none kV doc pm an cdv ct),osl⟩) (c:PySem.W.codeIn K cdv "law"=true) (k:PySem.W.keepIn K (.ref f)=true) :
    ∃ fd,Fun K "law" "law" s_law fa fd∧∀ (s:Shared) (v:Value),BindsTo s fd ⟨[v],[]⟩ [("_law_script",v)]:=by
  have e:=hfa.symm.trans (PySem.W.mg_of X G a)
  cases e
  exact ⟨_,fun_mk l c k,fun s v=>.of_eq rfl⟩
theorem walk {l:PySem.W.OpenLaw}{q:Program}{loose:List Str}{XP:(Str→Option Value)→Heap→Prop}{YP:World→Heap→Prop}{d:DefRec}{K:Params→PySem.W.Frag}(hn:l.most=some 63)(hdf:d.params.defaults=[])
    (hY:∀ (w:World) (h:Heap),YP w h→(K w.params).In h)
    (F:∀ (w:World) (mg:Str→Option Value) (fa:Addr) (h:Heap),(K w.params).In h→h.Ns mainGlobals mg→mg d.name=some (.ref fa) →
      ∃ fd:FuncData,(∀ (s:Shared) (u:Value),BindsTo s fd ⟨[u],[]⟩ [("_law_script",u)])∧∀ base:Heap,(K w.params).In base→base.Ns mainGlobals mg→FnOk l.prog w (K w.params) mg base CX0 40 fa fd ["_law_script"] (spLaw (K w.params))) :
    PySem.W.WalkO q loose XP YP l.row.toRowW d [] (fun f vs=>PySem.call f vs) :=
  L2.walk_of (n:=63) (k:=40) (x:="_law_script") (CX:=fun _=>CX0) (sp:=fun w=>spLaw (K w.params)) hn (by decide) hdf ⟨rfl,by decide,by decide⟩ hY F (fun _ _ a ns hl _ hS=>⟨a,ns,rfl,hS,hl,fun _=>rfl⟩) fun _ _ _ _ _ z=>z
theorem ex_cd {K:PySem.W.Frag}{h:Heap}{mg:Str→Option Value}{x:Str}{C:Addr}{R:Addr→Prop}(X:K.In h)(G:h.Ns mainGlobals mg)(a:PySem.W.nsIn K mainGlobals x=some (some (.ref C)))(r:mg x=some (.ref C)→R C):∃ C,R C:=⟨C,r (PySem.W.mg_of X G a)⟩
end My
theorem PySem.W.Fast.te13212753512367831853:True:=trivial
def PySem.W.Fast.tw13212753512367831853:Unit:=()
theorem PySem.W.Fast.te1284225385580074469:True:=trivial
def PySem.W.Fast.tw1284225385580074469:Unit:=()
theorem PySem.W.Fast.te4724431613514492577:True:=trivial
def PySem.W.Fast.tw4724431613514492577:Unit:=()
theorem PySem.W.Fast.te8403559534865787773:True:=trivial
def PySem.W.Fast.tw8403559534865787773:Unit:=()
theorem PySem.W.Fast.te13052408679150730464:True:=trivial
def PySem.W.Fast.tw13052408679150730464:Unit:=()
theorem PySem.W.Fast.te16555476440528808052:True:=trivial
def PySem.W.Fast.tw16555476440528808052:Unit:=()
theorem PySem.W.Fast.te4868988410673395695:True:=trivial
def PySem.W.Fast.tw4868988410673395695:Unit:=()
open PySem PySem.W PyProof.Rows My L2
abbrev zP:=PySem.Challenge.rw_runmarks_k66_what_holds.prog
local macro_rules | `(tactic| walk_at "d1")=>`(tactic| (dsimp only [L2.KOf]; refine' defAt_mk (by assumption) (by assumption) ?a ?l ?c ?k ?b; (case a=>k_is); (case l=>k_is); (case c=>k_is); (case k=>k_is); exact fun _ _ _ _ _ _=>all1 fun _=>rfl))
local macro_rules | `(tactic| walk_at "d2")=>`(tactic| (dsimp only [L2.KOf]; refine' defAt_mk (by assumption) (by assumption) ?a ?l ?c ?k ?b; (case a=>k_is); (case l=>k_is); (case c=>k_is); (case k=>k_is); exact fun _ _ _ _ _ _=>all2 fun _ _=>rfl))
local macro_rules | `(tactic| walk_at "d3")=>`(tactic| (dsimp only [L2.KOf]; refine' defAt_mk (by assumption) (by assumption) ?a ?l ?c ?k ?b; (case a=>k_is); (case l=>k_is); (case c=>k_is); (case k=>k_is); exact fun _ _ _ _ _ _=>all3 fun _ _ _=>rfl))
local macro_rules | `(tactic| walk_at "i2")=>`(tactic| (refine' maker_mk ?a ?b ?c ?d ?e ?f ?g ?h; (case a=>k_is); (case b=>k_is); (case c=>k_is); (case d=>k_is); (case e=>k_is); (case f=>k_is); (case g=>k_is); exact fun _ _ _ _ _ _=>all2 fun _ _=>rfl))
local macro_rules | `(tactic| walk_at "i4")=>`(tactic| (refine' maker_mk ?a ?b ?c ?d ?e ?f ?g ?h; (case a=>k_is); (case b=>k_is); (case c=>k_is); (case d=>k_is); (case e=>k_is); (case f=>k_is); (case g=>k_is); exact fun _ _ _ _ _ _=>all4 fun _ _ _ _=>rfl))
local macro_rules | `(tactic| walk_at "m2")=>`(tactic| (refine' mdef_mk ?a ?b ?c ?d ?e ?f; (case a=>k_is); (case b=>k_is); (case c=>k_is); (case d=>k_is); (case e=>k_is); exact fun _ _ _ _ _ _=>all2 fun _ _=>rfl))
local macro_rules | `(tactic| walk_at "cc")=>`(tactic| (refine' ⟨?a,?b,?c,?d⟩; (case a=>k_is); (case b=>k_is); (case c=>k_is); (case d=>k_is)))
local macro_rules | `(tactic| walk_at "ci")=>`(tactic| (refine' isi_to (by assumption) (by assumption) ?a ?b; (case a=>k_is); (case b=>kit_is)))
local macro_rules | `(tactic| walk_at "ck")=>`(tactic| (refine' ⟨?a,?b,?c⟩; (case a=>k_is); (case b=>k_is); (case c=>k_is)))
local macro_rules | `(tactic| walk_at "cn")=>`(tactic| (show PySem.W.findIn _ _ _ = _; k_is))
local macro_rules | `(tactic| walk_at "ic")=>`(tactic| (refine' int_mk (by assumption) (by assumption) ?a; (case a=>k_is)))
set_option maxRecDepth 100000 in
set_option maxHeartbeats 0 in
theorem PySem.Challenge.cw_runmarks_k66_what_holds_holds : PySem.Challenge.rw_runmarks_k66_what_holds.Holds := by
  w_on;o_law;k_head;(case hw=>w_witness2)
  k_fill
  refine My.walk (l:=PySem.Challenge.rw_runmarks_k66_what_holds) rfl rfl (fun w h Y=>PySem.W.kIn_of Y) ?F
  case F =>
    intro w mg fa h KX G hmg
    have D_l_cell_at:DefAt (L2.KOf KX) mg "_law_cell_at" s_l_cell_at ["_law_script","_law_k"]:=by walk_at "d2"
    have D_l_mixed:DefAt (L2.KOf KX) mg "_law_mixed" s_l_mixed ["_law_cell","_law_k"]:=by walk_at "d2"
    have D_l_name_of:DefAt (L2.KOf KX) mg "_law_name_of" s_l_name_of ["_law_letters"]:=by walk_at "d1"
    have D_l_names:DefAt (L2.KOf KX) mg "_law_names" s_l_names ["_law_script","_law_most"]:=by walk_at "d2"
    have D_l_leaf:DefAt (L2.KOf KX) mg "_law_leaf" s_l_leaf ["_law_cell","_law_names_here","_law_wide"]:=by walk_at "d3"
    have D_l_built:DefAt (L2.KOf KX) mg "_law_built" s_l_built ["_law_script","_law_most"]:=by walk_at "d2"
    have D_l_made:DefAt (L2.KOf KX) mg "_law_made" s_l_made ["_law_tree"]:=by walk_at "d1"
    have D_l_holds:DefAt (L2.KOf KX) mg "_law_holds" s_l_holds ["_law_tree","_law_values_here"]:=by walk_at "d2"
    have D_l_numbers_in:DefAt (L2.KOf KX) mg "_law_numbers_in" s_l_numbers_in ["_law_tree"]:=by walk_at "d1"
    have D_l_values:DefAt (L2.KOf KX) mg "_law_values" s_l_values ["_law_names_here","_law_numbers","_law_cell"]:=by walk_at "d3"
    have e_Every:∃ C,CD_Every (L2.KOf KX) mg C:=by
      dsimp only [L2.KOf]
      refine' ex_cd (x:="Every") KX G ?aEvery ?bEvery
      (case aEvery=>k_is)
      intro z
      refine' ⟨z,?_,?_,?_⟩
      · walk_at "cc"
      · walk_at "m2"
      · walk_at "ck"
    obtain ⟨C_Every,cd_Every⟩:=e_Every
    have e_Nobody:∃ C,CD_Nobody (L2.KOf KX) mg C:=by
      dsimp only [L2.KOf]
      refine' ex_cd (x:="Nobody") KX G ?aNobody ?bNobody
      (case aNobody=>k_is)
      intro z
      refine' ⟨z,?_,?_,?_⟩
      · walk_at "cc"
      · walk_at "m2"
      · walk_at "ck"
    obtain ⟨C_Nobody,cd_Nobody⟩:=e_Nobody
    have e_Within:∃ C,CD_Within (L2.KOf KX) mg C:=by
      dsimp only [L2.KOf]
      refine' ex_cd (x:="Within") KX G ?aWithin ?bWithin
      (case aWithin=>k_is)
      intro z
      refine' ⟨z,?_,?_,?_,?_,?_,?_⟩
      · walk_at "cc"
      · walk_at "i4"
      · walk_at "m2"
      · walk_at "cn"
      · walk_at "cn"
      · walk_at "cn"
    obtain ⟨C_Within,cd_Within⟩:=e_Within
    have e_Opposite:∃ C,CD_Opposite (L2.KOf KX) mg C:=by
      dsimp only [L2.KOf]
      refine' ex_cd (x:="Opposite") KX G ?aOpposite ?bOpposite
      (case aOpposite=>k_is)
      intro z
      refine' ⟨z,?_,?_,?_,?_⟩
      · walk_at "cc"
      · walk_at "i2"
      · walk_at "m2"
      · walk_at "cn"
    obtain ⟨C_Opposite,cd_Opposite⟩:=e_Opposite
    have e_AllOf:∃ C,CD_AllOf (L2.KOf KX) mg C:=by
      dsimp only [L2.KOf]
      refine' ex_cd (x:="AllOf") KX G ?aAllOf ?bAllOf
      (case aAllOf=>k_is)
      intro z
      refine' ⟨z,?_,?_,?_,?_⟩
      · walk_at "cc"
      · walk_at "i2"
      · walk_at "m2"
      · walk_at "cn"
    obtain ⟨C_AllOf,cd_AllOf⟩:=e_AllOf
    have e_OneOf:∃ C,CD_OneOf (L2.KOf KX) mg C:=by
      dsimp only [L2.KOf]
      refine' ex_cd (x:="OneOf") KX G ?aOneOf ?bOneOf
      (case aOneOf=>k_is)
      intro z
      refine' ⟨z,?_,?_,?_,?_⟩
      · walk_at "cc"
      · walk_at "i2"
      · walk_at "m2"
      · walk_at "cn"
    obtain ⟨C_OneOf,cd_OneOf⟩:=e_OneOf
    have B:Blt mg:=by
      refine' ⟨PySem.W.mg_none_of KX G ?z0,PySem.W.mg_none_of KX G ?z1,PySem.W.mg_none_of KX G ?z2,PySem.W.mg_none_of KX G ?z3,PySem.W.mg_none_of KX G ?z4,PySem.W.mg_none_of KX G ?z5,PySem.W.mg_none_of KX G ?z6,PySem.W.mg_none_of KX G ?z7,PySem.W.mg_none_of KX G ?z8,PySem.W.mg_none_of KX G ?z9,PySem.W.mg_none_of KX G ?z10⟩
      (case z0=>k_is);(case z1=>k_is);(case z2=>k_is);(case z3=>k_is);(case z4=>k_is);(case z5=>k_is);(case z6=>k_is);(case z7=>k_is);(case z8=>k_is);(case z9=>k_is);(case z10=>k_is)
    have L:∃ fd,Fun (L2.KOf KX) "law" "law" s_law fa fd∧∀ (s:Shared) (v:Value),BindsTo s fd ⟨[v],[]⟩ [("_law_script",v)]:=by
      dsimp only [L2.KOf]
      refine' My.law_mk KX G hmg ?aL ?lL ?cL ?kL
      (case aL=>k_is);(case lL=>k_is);(case cL=>k_is);(case kL=>k_is)
    obtain ⟨fd,FL,bL⟩:=L
    refine ⟨fd,bL,fun base _ _=>?_⟩
    let c:Kd→Addr:=fun k=>match k with | .ev=>C_Every | .no=>C_Nobody | .wi=>C_Within | .op=>C_Opposite | .al=>C_AllOf | .on=>C_OneOf
    have c1:CD_Every (L2.KOf KX) mg (c .ev):=cd_Every
    have c2:CD_Nobody (L2.KOf KX) mg (c .no):=cd_Nobody
    have c3:CD_Within (L2.KOf KX) mg (c .wi):=cd_Within
    have c4:CD_Opposite (L2.KOf KX) mg (c .op):=cd_Opposite
    have c5:CD_AllOf (L2.KOf KX) mg (c .al):=cd_AllOf
    have c6:CD_OneOf (L2.KOf KX) mg (c .on):=cd_OneOf
    have h_l_mixed:=ok_mixed (P:=zP) (w:=w) (base:=base) D_l_mixed
    have h_l_cell_at:=ok_cell_at (P:=zP) (w:=w) (base:=base) B D_l_cell_at
    have h_l_name_of:=ok_name_of (P:=zP) (w:=w) (base:=base) B D_l_name_of
    have h_l_names:=ok_names (P:=zP) (w:=w) (base:=base) B h_l_mixed h_l_cell_at h_l_name_of D_l_names
    have h_l_leaf:=ok_leaf (P:=zP) (w:=w) (base:=base) B h_l_mixed D_l_leaf
    have h_l_built:=ok_built (P:=zP) (w:=w) (base:=base) B h_l_mixed h_l_cell_at h_l_names h_l_leaf D_l_built
    have h_l_numbers_in:=ok_nums (P:=zP) (w:=w) (base:=base) B D_l_numbers_in 20
    have h_l_values:=ok_vals (P:=zP) (w:=w) (base:=base) B h_l_mixed D_l_values
    have h_l_made:=fun N=>ok_made (P:=zP) (w:=w) (base:=base) (C:=c) (N:=N) ⟨c1.at_,c1.new⟩ ⟨c2.at_,c2.new⟩ (ok_iWi c3) (ok_iOp c4) (ok_iAl B c5) (ok_iOn B c6) D_l_made 20
    have h_l_holds:=fun N hN=>ok_lholds (P:=zP) (w:=w) (base:=base) (N:=N) B hN D_l_holds 20 (by decide)
    have h_holds:=fun N k=>ok_holdsM (P:=zP) (w:=w) (base:=base) (N:=N) B c1 c2 c3 c4 c5 c6 30 k
    exact (ok_law B h_l_cell_at h_l_built h_l_names h_l_made h_l_numbers_in h_l_values h_l_holds h_holds FL).mono (by decide)
#print axioms PySem.Challenge.cw_runmarks_k66_what_holds_holds
