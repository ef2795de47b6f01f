import PyProof.Rows.All
import Wide.All
import OpenK.AllK
import Wide.FinOn
import Lean
import PyProof.EqAt
import PyProof.EqKinds
import PyProof.TupleCall
import PyProof.Rows.TupIter
import PyProof.ZipIter
import PyProof.MinMaxWalk
import PyProof.WalkInts
import PyProof.WalksMore
import PyProof.SeqI3
import PyProof.Rows.SetFrom
import PyProof.Rows.SortShell
import OpenK.KMore
import KE.KSortTup
import KE.KDictSum
import PyProof.CollectWalk
import PyProof.ListNew
import PyProof.SumWalkG
import KE.KDictLaws
import KE.KIntText
import KE.IntTextLaws
import PyProof.StrBlockI
import PyProof.ConsumeWalk
import PyProof.StrLawsIn
import KE.KDictOf
import KE.KEqDict
import KE.KMinBuiltin
import PyProof.Rows.CallKwBuiltin
import KE.KTryOn
import PyProof.NsDelKeeps
import PyProof.RulesAs
import PyProof.ExcArgsOwn
import PyProof.IsiH_list
import KE.KIsAll
import PyProof.Rows.FStr
import PyProof.FString
import PyProof.ExcInit
import PyProof.ReprStr
import PyProof.StrLawsRepr
import PyProof.Draws
import PyProof.EnumMake
import PyProof.EnumFor
import PySem.Challenge.RW_runmarks_k81_columns_of_a_table
set_option maxHeartbeats 4000000
local macro_rules | `(tactic| omega) => `(tactic| lia)
local macro_rules | `(tactic| walk_at "l") => `(tactic| first | exact Or.inl rfl | exact Or.inr rfl)
local macro_rules | `(tactic| walk_at "s") => `(tactic| exact ⟨rfl,rfl,rfl,by decide +kernel,rfl,by decide +kernel,by decide +kernel⟩)
set_option Elab.async false
set_option linter.all false
set_option maxRecDepth 100000
namespace L2
open PySem PySem.Spec PyProof.Rows
abbrev Key:=Sum Int Str
def keyIs:Key→Value→Bool
  | .inl k,v=>Value.isInt k v
  | .inr x,v=>Value.isStrOf x v
def keyH (w:World):Key→Int
  | .inl k=>hashInt k
  | .inr x=>hashStr w x
theorem keyIs_shape:∀ {k:Key} {v:Value},keyIs k v=true→(∃ i t,k=Sum.inl i∧v=Value.int i t)∨(∃ x t,k=Sum.inr x∧v=Value.str x t)
  | .inl i,v,h=>by
    obtain ⟨t,e⟩:=Value.isInt_shape (k:=i) (v:=v) h
    exact .inl ⟨i,t,rfl,e⟩
  | .inr x,v,h=>by
    obtain ⟨t,e⟩:=Value.isStrOf_shape (x:=x) (v:=v) h
    exact .inr ⟨x,t,rfl,e⟩
theorem keyIs_int (i:Int)(t:Tok):keyIs (.inl i) (.int i t)=true:=by simp [keyIs,Value.isInt]
theorem keyIs_str (x:Str)(t:Tok):keyIs (.inr x) (.str x t)=true:=by simp [keyIs,Value.isStrOf]
theorem key_ll (a b:Int):decide ((Sum.inl a:Key)=Sum.inl b)=(a==b):=by
  by_cases e:a=b
  · subst e;simp
  · have h:¬ (Sum.inl a:Key)=Sum.inl b:=fun q=>e (Sum.inl.inj q)
    rw [decide_eq_false h]
    exact (beq_eq_false_iff_ne.mpr e).symm
theorem key_rr (a b:Str):decide ((Sum.inr a:Key)=Sum.inr b)=decide (a=b):=by
  by_cases e:a=b
  · subst e;simp
  · have h:¬ (Sum.inr a:Key)=Sum.inr b:=fun q=>e (Sum.inr.inj q)
    rw [decide_eq_false h,decide_eq_false e]
theorem key_lr (a:Int)(b:Str):decide ((Sum.inl a:Key)=Sum.inr b)=false:=decide_eq_false (fun q=>nomatch q)
theorem key_rl (a:Str)(b:Int):decide ((Sum.inr a:Key)=Sum.inl b)=false:=decide_eq_false (fun q=>nomatch q)
def mixKind (prog:Program) (w:World):PySem.KeyKind prog w Key where
  is:=keyIs
  hash:=keyH w
  inj := fun v a b ha hb=>by
    rcases keyIs_shape ha with ⟨i,t,rfl,rfl⟩ | ⟨x,t,rfl,rfl⟩
    · rcases keyIs_shape hb with ⟨j,u,rfl,e⟩ | ⟨y,u,rfl,e⟩
      · injection e with e1 _;rw [e1]
      · exact nomatch e
    · rcases keyIs_shape hb with ⟨j,u,rfl,e⟩ | ⟨y,u,rfl,e⟩
      · exact nomatch e
      · injection e with e1 _;rw [e1]
  byValue:=fun k v h=>by
    rcases keyIs_shape h with ⟨i,t,rfl,rfl⟩ | ⟨x,t,rfl,rfl⟩<;>rfl
  pyHash:=fun hv h=>by
    rcases keyIs_shape hv with ⟨i,t,rfl,rfl⟩ | ⟨x,t,rfl,rfl⟩
    · exact wpAny_pyHash_int h
    · exact wpAny_pyHash_str h
  eqBool:=fun hu hv h=>by
    rcases keyIs_shape hu with ⟨i,t,rfl,rfl⟩ | ⟨x,t,rfl,rfl⟩
    · rcases keyIs_shape hv with ⟨j,u,rfl,rfl⟩ | ⟨y,u,rfl,rfl⟩
      · rw [key_ll] at h;exact wpAny_eqBool_int h
      · rw [key_lr] at h;exact SeqAt.EqAt.int_str i t y u _ _ _ _ h
    · rcases keyIs_shape hv with ⟨j,u,rfl,rfl⟩ | ⟨y,u,rfl,rfl⟩
      · rw [key_rl] at h;exact SeqAt.EqAt.str_int x t j u _ _ _ _ h
      · rw [key_rr] at h;exact wpAny_eqBool_str h
  «strs»:=fun k x t v h=>by
    rcases keyIs_shape h with ⟨i,u,rfl,e⟩ | ⟨y,u,rfl,e⟩
    · exact nomatch e
    · injection e with e1 _
      subst e1
      cases v<;>rfl
theorem mixKind_is (prog:Program)(w:World)(k:Key)(v:Value):(mixKind prog w).is k v=keyIs k v:=rfl
theorem mixKind_int (prog:Program)(w:World)(i:Int)(t:Tok):(mixKind prog w).is (.inl i) (.int i t)=true:=keyIs_int i t
theorem mixKind_str (prog:Program)(w:World)(x:Str)(t:Tok):(mixKind prog w).is (.inr x) (.str x t)=true:=keyIs_str x t
end L2
namespace L2
open PySem PySem.Spec PyProof.Rows
inductive V where
  | non | bl (b:Bool) | int (i:Int) | str (x:Str) | byt (b:Array UInt8) | flt (b:UInt64) | ref (a:Addr) | ty (n:String)
  deriving DecidableEq
def RelV:V→Value→Prop
  | .non,u=>u=Value.none
  | .bl b,u=>u=Value.bool b
  | .int i,u=>∃ t,u=Value.int i t
  | .str x,u=>∃ t,u=Value.str x t
  | .byt b,u=>∃ t,u=Value.bytes b t
  | .flt b,u=>∃ t,u=Value.float b t
  | .ref a,u=>u=Value.ref a
  | .ty n,u=>u=Value.type n
abbrev Vals:List V→List Value→Prop:=Paired RelV
theorem Vals.length {xs:List V}{us:List Value}(r:Vals xs us):xs.length=us.length:=Paired.length r
theorem Vals.get:∀ {xs:List V} {us:List Value} {i:Nat} {x:V},Vals xs us→xs[i]?=some x→∃ u,us[i]?=some u∧RelV x u
  | _,_,_,_,.nil,e=>by simp at e
  | _,_,0,_,.cons r _,e=>by simp at e;subst e;exact ⟨_,rfl,r⟩
  | _,_,i+1,x,.cons _ t,e=>by
    obtain ⟨u,h1,h2⟩:=Vals.get (i:=i) (x:=x) t (by simpa using e)
    exact ⟨u,by simpa using h1,h2⟩
theorem Vals.append:∀ {xs ys:List V} {us ws:List Value},Vals xs us→Vals ys ws→Vals (xs++ys) (us++ws)
  | _,_,_,_,.nil,s=>s
  | _,_,_,_,.cons r t,s=>.cons r (Vals.append t s)
theorem Vals.take:∀ {xs:List V} {us:List Value} (n:Nat),Vals xs us→Vals (xs.take n) (us.take n)
  | _,_,0,_=>.nil
  | _,_,_+1,.nil=>.nil
  | _,_,n+1,.cons r t=>.cons r (Vals.take n t)
theorem Vals.drop:∀ {xs:List V} {us:List Value} (n:Nat),Vals xs us→Vals (xs.drop n) (us.drop n)
  | _,_,0,r=>r
  | _,_,_+1,.nil=>.nil
  | _,_,n+1,.cons _ t=>Vals.drop n t
def RelO:Option V→Option Value→Prop
  | some v,some u=>RelV v u
  | none,none=>True
  | _,_=>False
def KV {κ:Type}:List (κ × V)→List (κ × Value)→Prop:=Paired fun (p:κ × V) (q:κ × Value)=>p.1=q.1∧RelV p.2 q.2
def kV:Key→V
  | .inl i=>.int i
  | .inr x=>.str x
inductive HO where
  | lst (xs:List V)
  | tup (xs:List V)
  | dK (kvs:List (Key × V)) | dT (kvs:List (List Key × V))
  | set (S:Int→Bool) (n:Nat)
  | ins (C dx:Addr) (fs:List (Str × V))
  | own (x:Addr)
  | xd (fs:List (Str × V))
  | met (f x:Addr)
  | rng (lo hi:Int)
  | frz (o:Obj) (u:HO)
  | tbl (ps:Array Value)
  | ext (φ:Heap→Prop)
abbrev Hp:=Addr→Option HO
def upd (H:Hp)(a:Addr)(o:HO):Hp:=fun b=>if b=a then some o else H b
theorem upd_same {H:Hp}{a:Addr}{o:HO}:upd H a o a=some o:=by unfold upd;rw [if_pos rfl]
theorem upd_ne {H:Hp}{a b:Addr}{o:HO}(h:b≠a):upd H a o b=H b:=by unfold upd;rw [if_neg h]
theorem upd_upd {H:Hp}{a:Addr}{o u:HO}:upd (upd H a o) a u=upd H a u:=by
  funext b;unfold upd;split<;>rfl
theorem ne_of {H:Hp}{a b:Addr}{o u:HO}(h:H a=some o)(h':H b=some u)(d:o≠u):a≠b:=by
  intro e;subst e;rw [h] at h';exact d (Option.some.inj h')
theorem ne_of_none {H:Hp}{a b:Addr}{o:HO}(h:H a=some o)(h':H b=none):a≠b:=by
  intro e;subst e;rw [h] at h';cases h'
section
variable (P:Program)(w:World)
def ObjOk (H:Hp)(h:Heap)(a:Addr):HO→Prop
  | .lst xs=>xs.length≤sizeLine∧∃ (its:List Value) (n:Nat),Vals xs its∧h.get? a=some { cls:=.type "list",data:=.seq its.toArray n }
  | .tup xs=>xs.length≤sizeLine∧∃ its:List Value,Vals xs its∧IsTup h a its.toArray
  | .dK kvs=>kvs.length≤sizeLine∧(a==sysModules)=false∧∃ vs,KV kvs vs∧h.DictOf (mixKind P w) a vs
  | .dT kvs=>kvs.length≤sizeLine∧(a==sysModules)=false∧∃ xs:List (List Key × Addr × Value),
      Paired (fun (p:List Key × V) (q:List Key × Addr × Value)=>p.1=q.1∧H q.2.1=some (.tup (p.1.map kV))∧RelV p.2 q.2.2) kvs xs ∧
      ∃ o es ep,h.get? a=some o∧o.ExactDict∧o.data=.dict es ep∧es.toList=xs.map (entryOfKey (tupleKind (mixKind P w)))∧(xs.map (·.1)).Nodup
  | .set S n=>h.SetOf (intKind P w) a S n
  | .ins C dx fs=>H dx=some (.own a)∧fs.length≤1000∧dx≠a∧h.get? a=some (PySem.W.instObj C dx) ∧
      ∃ mA,h.Ns1 dx mA∧(∀ f,RelO (fs.lookup f) (mA f))∧PySem.Within mA (fs.map (·.1))
  | .own _=>∃ o,h.get? a=some o
  | .xd fs=>∃ mA,h.Ns1 a mA∧∀ f,RelO (fs.lookup f) (mA f)
  | .rng lo hi=>∃ t u v,h.get? a=some { cls:=.type "range",data:=.fields #[.int lo t,.int hi u,.int 1 v] }
  | .frz o u=>h.get? a=some o∧ObjOk H h a u
  | .tbl ps=>h.get? a=some { cls:=.none,data:=.fields ps }
  | .met f x=>h.get? a=some (PySem.W.methodObj (.ref f) (.ref x))
  | .ext φ=>φ h∧(∃ o,h.get? a=some o)∧∀ h1 h2:Heap,φ h1→(∀ o,h1.get? a=some o→h2.get? a=some o)→φ h2
def HOk (H:Hp)(h:Heap):Prop:=∀ a o,H a=some o→ObjOk P w H h a o
end
section
variable {P:Program}{w:World}{H H':Hp}{h h':Heap}{a:Addr}{o:HO}
theorem ObjOk.lt (x:ObjOk P w H h a o):a<h.objs.size:=by
  cases o with
  | lst xs=>obtain ⟨_,_,_,_,e⟩:=x;exact Heap.lt_size e
  | tup xs=>obtain ⟨_,_,_,p⟩:=x;exact p.lt
  | dK kvs=>obtain ⟨_,_,_,_,o,_,_,e,_⟩:=x;exact Heap.lt_size e
  | dT kvs=>obtain ⟨_,_,_,_,o,_,_,e,_⟩:=x;exact Heap.lt_size e
  | set S n=>obtain ⟨o,_,_,_,e,_⟩:=x;exact Heap.lt_size e
  | ins C dx fs=>obtain ⟨_,_,_,e,_⟩:=x;exact Heap.lt_size e
  | own y=>obtain ⟨_,e⟩:=x;exact Heap.lt_size e
  | xd fs=>obtain ⟨_,⟨_,_,_,e,_⟩,_⟩:=x;exact Heap.lt_size e
  | rng lo hi=>obtain ⟨_,_,_,e⟩:=x;exact Heap.lt_size e
  | frz ob u=>obtain ⟨e,_⟩:=x;exact Heap.lt_size e
  | tbl ps=>exact Heap.lt_size (show h.get? a=some _ from x)
  | met f y=>exact Heap.lt_size (show h.get? a=some _ from x)
  | ext φ=>obtain ⟨_,⟨_,e⟩,_⟩:=x;exact Heap.lt_size e
theorem Paired.mapP {α β:Type}{F G:α→β→Prop}:∀ {l₁:List α} {l₂:List β},Paired F l₁ l₂→(∀ a b,F a b→G a b)→Paired G l₁ l₂
  | _,_,.nil,_=>.nil
  | _,_,.cons r t,f=>.cons (f _ _ r) (Paired.mapP t f)
theorem ObjOk.stay (x:ObjOk P w H h a o)(k:∀ b u,(b=a∨H b=some (.own a))→h.get? b=some u→h'.get? b=some u)
    (ho:∀ b,H b=some (.own a)→H' b=some (.own a)) (ht:∀ b xs,H b=some (.tup xs)→H' b=some (.tup xs)):ObjOk P w H' h' a o:=by
  induction o with
  | lst xs=>obtain ⟨z,its,n,r,e⟩:=x;exact ⟨z,its,n,r,k _ _ (.inl rfl) e⟩
  | tup xs=>obtain ⟨z,its,r,ob,e,c⟩:=x;exact ⟨z,its,r,ob,k _ _ (.inl rfl) e,c⟩
  | dK kvs=>obtain ⟨z,y,vs,r,ob,es,ep,e,c⟩:=x;exact ⟨z,y,vs,r,ob,es,ep,k _ _ (.inl rfl) e,c⟩
  | dT kvs =>
    obtain ⟨z,y,xs,r,ob,es,ep,e,c⟩:=x
    exact ⟨z,y,xs,Paired.mapP r fun p q z=>⟨z.1,ht _ _ z.2.1,z.2.2⟩,ob,es,ep,k _ _ (.inl rfl) e,c⟩
  | set S n=>obtain ⟨ob,es,ep,t,e,c⟩:=x;exact ⟨ob,es,ep,t,k _ _ (.inl rfl) e,c⟩
  | ins C dx fs =>
    obtain ⟨d,z,ne,e,mA,⟨od,es,ep,e2,c⟩,r⟩:=x
    exact ⟨ho _ d,z,ne,k _ _ (.inl rfl) e,mA,⟨od,es,ep,k _ _ (.inr d) e2,c⟩,r⟩
  | own y=>obtain ⟨ob,e⟩:=x;exact ⟨ob,k _ _ (.inl rfl) e⟩
  | xd fs=>obtain ⟨mA,⟨od,es,ep,e,c⟩,r⟩:=x;exact ⟨mA,⟨od,es,ep,k _ _ (.inl rfl) e,c⟩,r⟩
  | rng lo hi=>obtain ⟨t,u,v,e⟩:=x;exact ⟨t,u,v,k _ _ (.inl rfl) e⟩
  | frz ob u ih=>obtain ⟨e,q⟩:=x;exact ⟨k _ _ (.inl rfl) e,ih q⟩
  | tbl ps =>
    have e:h.get? a=some { cls:=.none,data:=.fields ps }:=x
    show h'.get? a=some { cls:=.none,data:=.fields ps }
    exact k a _ (.inl rfl) e
  | met f y =>
    have e:h.get? a=some (PySem.W.methodObj (.ref f) (.ref y)):=x
    show h'.get? a=some (PySem.W.methodObj (.ref f) (.ref y))
    exact k a _ (.inl rfl) e
  | ext φ=>obtain ⟨p,⟨o,e⟩,st⟩:=x;exact ⟨st _ _ p fun o q=>k _ _ (.inl rfl) q,⟨o,k _ _ (.inl rfl) e⟩,st⟩
theorem HOk.lt (x:HOk P w H h)(e:H a=some o):a<h.objs.size:=(x a o e).lt
theorem HOk.fresh (x:HOk P w H h)(e:h.objs.size≤a):H a=none:=by
  cases q:H a with
  | none=>rfl
  | some u=>exact absurd (Nat.lt_of_lt_of_le (x.lt q) e) (Nat.lt_irrefl _)
theorem HOk.kept (x:HOk P w H h)(k:∀ b u,h.get? b=some u→h'.get? b=some u):HOk P w H h':=fun a o e =>
  (x a o e).stay (fun b u _ q=>k b u q) (fun _ q=>q) fun _ _ q=>q
theorem HOk.laid (x:HOk P w H h)(k:∀ b u,h.get? b=some u→h'.get? b=some u)(hp:h.objs.size≤a)(new:ObjOk P w (upd H a o) h' a o):HOk P w (upd H a o) h':=fun b u e=>by
  have hn:=x.fresh hp
  by_cases hb:b=a
  · subst hb;rw [upd_same] at e;cases e;exact new
  · rw [upd_ne hb] at e
    exact (x b u e).stay (fun c v _ q=>k c v q) (fun c q=>by rw [upd_ne (ne_of_none q hn)];exact q) fun c xs q=>by rw [upd_ne (ne_of_none q hn)];exact q
end
def Rd (H:Hp)(a:Addr)(u:HO):Prop:=H a=some u∨∃ o,H a=some (.frz o u)
theorem Rd.ok {P:Program}{w:World}{H:Hp}{h:Heap}{a:Addr}{u:HO}(r:Rd H a u)(x:HOk P w H h):ObjOk P w H h a u:=by
  rcases r with r | ⟨o,r⟩
  · exact x a u r
  · obtain ⟨_,q⟩:=x a _ r
    exact q
def Mut:Option HO→Prop
  | some (.lst _)=>True
  | some (.dK _)=>True
  | some (.dT _)=>True
  | some (.set _ _)=>True
  | some (.ins _ _ _)=>True
  | some (.ext _)=>True
  | _=>False
section
variable {P:Program}{w:World}{H:Hp}{h h':Heap}{x e:Addr}{o':HO}
theorem HOk.write (ok:HOk P w H h) (mu:Mut (H x)) (he:e=x∨H e=some (.own x)) (k:∀ b u,b≠e→h.get? b=some u→h'.get? b=some u) (heo:∃ u,h'.get? e=some u)
    (new:ObjOk P w (upd H x o') h' x o'):HOk P w (upd H x o') h':=fun b u q=>by
  have nown:∀ c y,H c=some (.own y)→c≠x:=fun c y r z=>by subst z;rw [r] at mu;exact mu
  have ntup:∀ c xs,H c=some (.tup xs)→c≠x:=fun c xs r z=>by subst z;rw [r] at mu;exact mu
  by_cases hb:b=x
  · subst hb;rw [upd_same] at q;cases q;exact new
  · rw [upd_ne hb] at q
    by_cases hbe:b=e
    · have q':H b=some (.own x):=by
        rcases he with z | z
        · exact absurd (hbe.trans z) hb
        · rw [hbe];exact z
      rw [q] at q';cases q'
      obtain ⟨v,hv⟩:=heo
      exact ⟨v,by rw [hbe];exact hv⟩
    · refine (ok b u q).stay (fun c v hc r=>k c v ?_ r) (fun c r=>by rw [upd_ne (nown c b r)];exact r) fun c xs r=>by rw [upd_ne (ntup c xs r)];exact r
      rcases hc with rfl | hc
      · exact hbe
      · rintro rfl
        rcases he with z | z
        · exact nown c b hc z
        · rw [hc] at z;cases z;exact hb rfl
end
structure Un (fs ex:List Addr)(H H':Hp)(h h':Heap):Prop where
  keep:∀ b o,h.get? b=some o→H b=none→b∉fs→b∉ex→h'.get? b=some o
  slot:∀ b o,h.get? b=some o→H b=none→b∈fs→b∉ex→∃ sl,h'.get? b=some { o with slots:=sl }
  free:∀ b o,h.get? b=some o→H b=none→b∉ex→H' b=none
  there:∀ b o,h.get? b=some o→b∉ex→∃ o',h'.get? b=some o'
  tups:∀ b xs,H b=some (.tup xs)→H' b=some (.tup xs)
  frzs:∀ b o u,H b=some (.frz o u)→H' b=some (.frz o u)
  tbls:∀ b ps,H b=some (.tbl ps)→∃ more,H' b=some (.tbl (ps++more))
section
variable {fs fs' ex ex':List Addr}{H H1 H2:Hp}{h h1 h2 h':Heap}{a x e:Addr}{o:HO}
theorem Un.any (u:Un fs ex H H1 h h1){b:Addr}{ob:Obj}(q:h.get? b=some ob)(n:H b=none)(hx:b∉ex):∃ sl,h1.get? b=some { ob with slots:=sl }:=by
  by_cases hb:b∈fs
  · exact u.slot b ob q n hb hx
  · exact ⟨ob.slots,u.keep b ob q n hb hx⟩
theorem Un.trans (a:Un fs ex H H1 h h1)(b:Un fs ex H1 H2 h1 h2):Un fs ex H H2 h h2 where
  keep:=fun c ob q n hc hx=>b.keep c ob (a.keep c ob q n hc hx) (a.free c ob q n hx) hc hx
  slot:=fun c ob q n hc hx=>by
    obtain ⟨sl,e1⟩:=a.slot c ob q n hc hx
    obtain ⟨sl',e2⟩:=b.slot c _ e1 (a.free c ob q n hx) hc hx
    exact ⟨sl',e2⟩
  free:=fun c ob q n hx=>by
    obtain ⟨o',e1⟩:=a.there c ob q hx
    exact b.free c o' e1 (a.free c ob q n hx) hx
  there:=fun c ob q hx=>by
    obtain ⟨o',e1⟩:=a.there c ob q hx
    exact b.there c o' e1 hx
  tups:=fun c xs q=>b.tups c xs (a.tups c xs q)
  frzs:=fun c ob xs q=>b.frzs c ob xs (a.frzs c ob xs q)
  tbls:=fun c ps q=>by
    obtain ⟨m1,e1⟩:=a.tbls c ps q
    obtain ⟨m2,e2⟩:=b.tbls c _ e1
    exact ⟨m1++m2,by rw [e2,Array.append_assoc]⟩
theorem Un.kept (k:∀ b u,h.get? b=some u→h'.get? b=some u):Un fs ex H H h h' :=
  ⟨fun b ob q _ _ _=>k b ob q,fun b ob q _ _ _=>⟨ob.slots,k b ob q⟩,fun _ _ _ n _=>n,fun b ob q _=>⟨ob,k b ob q⟩,fun _ _ q=>q,fun _ _ _ q=>q,fun _ ps q=>⟨#[],by rw [q];simp⟩⟩
theorem Un.refl:Un fs ex H H h h:=Un.kept fun _ _ q=>q
theorem Un.laid (k:∀ b u,h.get? b=some u→h'.get? b=some u)(hp:h.objs.size≤a)(hn:H a=none):Un fs ex H (upd H a o) h h' where
  keep:=fun b u q _ _ _=>k b u q
  slot:=fun b u q _ _ _=>⟨u.slots,k b u q⟩
  free:=fun b u q n _=>by rw [upd_ne (Nat.ne_of_lt (Nat.lt_of_lt_of_le (Heap.lt_size q) hp))];exact n
  there:=fun b u q _=>⟨u,k b u q⟩
  tups:=fun b xs q=>by rw [upd_ne (ne_of_none q hn)];exact q
  frzs:=fun b u xs q=>by rw [upd_ne (ne_of_none q hn)];exact q
  tbls:=fun b ps q=>⟨#[],by rw [upd_ne (ne_of_none q hn),q];simp⟩
theorem Un.write (mu:Mut (H x))(he:e=x∨H e=some (.own x))(k:∀ b u,b≠e→h.get? b=some u→h'.get? b=some u)(heo:∃ u,h'.get? e=some u):Un fs ex H (upd H x o) h h':=by
  have hx:∀ b,H b=none→b≠x:=fun b n z=>by subst z;rw [n] at mu;exact mu
  have hb:∀ b,H b=none→b≠e:=fun b n z=>by
    subst z
    rcases he with r | r
    · exact hx b n r
    · rw [n] at r;cases r
  have hm:∀ b u,H b=some u→¬ Mut (some u)→b≠x:=fun b u q nm z=>by subst z;rw [q] at mu;exact nm mu
  refine ⟨fun b u q n _ _=>k b u (hb b n) q,fun b u q n _ _=>⟨u.slots,k b u (hb b n) q⟩,fun b u q n _=>by rw [upd_ne (hx b n)];exact n,fun b u q _=>?_,
    fun b xs q=>by rw [upd_ne (hm b _ q fun z=>z)];exact q,fun b u xs q=>by rw [upd_ne (hm b _ q fun z=>z)];exact q,fun b ps q=>⟨#[],by rw [upd_ne (hm b _ q fun z=>z),q];simp⟩⟩
  by_cases hbe:b=e
  · subst hbe;exact heo
  · exact ⟨u,k b u hbe q⟩
end
def trk (h:Heap)(H:Hp):List Addr:=(List.range h.objs.size).filter fun a=>(H a).isSome
def hidT (h:Heap)(H:Hp):Heap:=PySem.W.hideAll h (trk h H)
theorem hidT_size (h:Heap)(H:Hp):(hidT h H).objs.size=h.objs.size:=PySem.W.hideAll_size _ _
theorem hidT_get {h:Heap}{H:Hp}{b:Addr}{o:Obj}(e:h.get? b=some o)(n:H b=none):(hidT h H).get? b=some o :=
  PySem.W.hideAll_get _ e fun hm=>by
    have q:(H b).isSome=true:=(List.mem_filter.mp hm).2
    rw [n] at q;simp at q
theorem of_hidT {h:Heap}{H:Hp}{b:Addr}{o:Obj}(e:(hidT h H).get? b=some o):h.get? b=some o∧H b=none:=by
  have e':h.get? b=some o:=PySem.W.of_hideAll (trk h H) e
  refine ⟨e',?_⟩
  cases q:H b with
  | none=>rfl
  | some x =>
    have hm:b∈trk h H:=List.mem_filter.mpr ⟨List.mem_range.mpr (Heap.lt_size e'),by simp [q]⟩
    have z:(hidT h H).get? b=none:=PySem.W.hideAll_none (trk h H) hm
    rw [z] at e;cases e
def allNews (g h:Heap)(L:Addr):List (Addr × Obj):=(List.range h.objs.size).filterMap fun a=>if a=L∨(g.get? a).isSome=true then none else (h.get? a).map fun o=>(a,o)
def rest (g h:Heap)(L d:Addr):List (Addr × Obj):=(allNews g h L).filter fun p=>decide (p.1≠d)
end L2
namespace L2
open PySem PySem.Spec PyProof.Rows
structure Mod (K:PySem.W.Frag)(mg:Str→Option Value)(base:Heap):Prop where
  kin:K.In base
  glob:base.Ns mainGlobals mg
  blt:∃ mb,base.Ns builtinsNs mb∧∀ x:Str,x≠"__name__"→mb x=bootBuiltins x
  nolimit:base.NoLimit
structure Cx where
  prog:Program
  w:World
  K:PySem.W.Frag
  mg:Str→Option Value
  base:Heap
  A:Around
  N:List Str
  s₀:Shared
  H₀:Hp
  env:Env
  outer:List Env
  stack:List Env
  ex:List Addr
  fn:Str→Bool
  calm:Bool
  pn:List (Addr × Obj)
  xe:Value→Shared→Prop
def frs (l:List Env):List Addr:=l.filterMap (·.frame)
abbrev Cx.fs (X:Cx):List Addr:=frs X.outer
def Vis (sc:Scope)(x:Str):Prop:=sc.names.lookup x=some .local∨sc.names.lookup x=some .cell∨sc.names.lookup x=some .free
def Loc (sc:Scope)(x:Str):Prop:=sc.names.lookup x=some .local∨sc.names.lookup x=some .cell
def Look (env:Env)(h:Heap)(m:Str→Option Value)(x:Str)(u:Value):Prop :=
  (env.kindOf x=some .local∧m x=some u)∨((env.kindOf x=some .cell∨env.kindOf x=some .free)∧∃ c,env.cells.lookup x=some c∧h.IsCell c (some u))
structure Cx.Ok (X:Cx):Prop where
  mod:Mod X.K X.mg X.base
  kind:X.env.scope.kind=.function
  glob:X.env.globals=mainGlobals
  blt:X.env.builtins=builtinsNs
  above:X.s₀.heap.objs.size≤X.env.locals
  inj:∀ x y c,X.env.cells.lookup x=some c→X.env.cells.lookup y=some c→x=y
  has:∀ x,(X.env.kindOf x=some .cell∨X.env.kindOf x=some .free)→∃ c,X.env.cells.lookup x=some c
  cab:∀ x c,X.fn x=true→X.env.cells.lookup x=some c→X.s₀.heap.objs.size≤c
  hd:X.calm=true→X.A.handled=none
  frames:X.A.frames=some X.stack
  stk:X.stack=X.outer∨(X.stack=X.env::X.outer∧X.env.frame=some X.env.locals)
  exf:∀ b∈X.ex,b≠X.env.locals∧∀ x c,X.env.cells.lookup x=some c→c≠b
  bs:∀ b o,X.base.get? b=some o→X.s₀.heap.get? b=some o∧X.H₀ b=none
  bsz:X.base.objs.size≤X.s₀.heap.objs.size
  noex:∀ b o,X.base.get? b=some o→b∉X.ex
  exfs:∀ b∈X.ex,b∉X.fs
  funs:X.s₀.heap.FunFrames X.base X.outer
  frf:∀ b∈X.fs,X.H₀ b=none
structure Inv (X:Cx)(pins:List (Addr × Obj))(σ:List (Option V))(H:Hp)(s:Shared):Prop where
  ok:X.Ok
  os:s.os=X.s₀.os
  bare:AllBare s.gens
  base:Un X.fs X.ex X.H₀ H X.s₀.heap s.heap
  loc:∃ m,s.heap.Ns X.env.locals m∧∀ (i:Nat) (x:Str) (v:V),X.N[i]?=some x→σ[i]?=some (some v)→Vis X.env.scope x→∃ u,RelV v u∧Look X.env s.heap m x u
  cell:∀ x c,X.env.cells.lookup x=some c→∃ v,s.heap.IsCell c v
  free:H X.env.locals=none
  freeC:∀ x c,X.env.cells.lookup x=some c→H c=none
  pin:∀ p∈X.pn++pins,s.heap.get? p.1=some p.2∧H p.1=none∧p.1≠X.env.locals∧p.1∉X.fs∧∀ v,p.2.data≠.cell v
  hok:HOk X.prog X.w H s.heap
  len:σ.length=X.N.length
section
variable {X:Cx}{pins:List (Addr × Obj)}{σ:List (Option V)}{H H':Hp}{s:Shared}{h':Heap}
theorem Cx.Ok.nofr (ok:X.Ok){b:Addr}{o:Obj}(e:X.base.get? b=some o):b∉X.fs:=fun hb=>by
  have:=(ok.funs.mem hb).1
  rw [e] at this;cases this
theorem Inv.bs (I:Inv X pins σ H s):∀ b o,X.base.get? b=some o→s.heap.get? b=some o∧H b=none:=fun b o e =>
  ⟨I.base.keep b o (I.ok.bs b o e).1 (I.ok.bs b o e).2 (I.ok.nofr e) (I.ok.noex b o e),I.base.free b o (I.ok.bs b o e).1 (I.ok.bs b o e).2 (I.ok.noex b o e)⟩
theorem Inv.bk (I:Inv X pins σ H s):∀ b o,X.base.get? b=some o→s.heap.get? b=some o:=fun b o e=>(I.bs b o e).1
theorem Inv.mod (I:Inv X pins σ H s):Mod X.K X.mg X.base:=I.ok.mod
theorem Inv.kIn (I:Inv X pins σ H s):X.K.In s.heap:=I.ok.mod.kin.keeps I.bk
theorem Inv.lt (I:Inv X pins σ H s):X.env.locals<s.heap.objs.size:=let ⟨_,hn,_⟩:=I.loc;hn.lt
theorem Inv.sz (I:Inv X pins σ H s):X.s₀.heap.objs.size≤s.heap.objs.size:=Nat.le_trans I.ok.above (Nat.le_of_lt I.lt)
theorem Inv.nofs (I:Inv X pins σ H s){a:Addr}(h:s.heap.objs.size≤a):a∉X.fs:=fun hb=>by
  obtain ⟨_,o,ho,_⟩:=I.ok.funs.mem hb
  exact absurd (Nat.lt_of_lt_of_le (Heap.lt_size ho) (Nat.le_trans I.sz h)) (Nat.lt_irrefl _)
theorem Inv.cne (I:Inv X pins σ H s):∀ x c,X.env.cells.lookup x=some c→c≠X.env.locals:=fun x c e z=>by
  obtain ⟨v,o,ho,hd⟩:=I.cell x c e
  obtain ⟨m,⟨o',es,ep,ho',hd',_⟩,_⟩:=I.loc
  rw [z,ho'] at ho;cases ho;rw [hd'] at hd;cases hd
theorem Inv.funs (I:Inv X pins σ H s):s.heap.FunFrames X.base X.outer:=by
  have all:∀ (l:List Env),(∀ b∈frs l,b∈X.fs)→X.s₀.heap.FunFrames X.base l→s.heap.FunFrames X.base l:=by
    intro l
    induction l with
    | nil=>intro _ _;trivial
    | cons env r ih =>
      intro hs hl
      obtain ⟨hk,⟨L,o,hf,hn,ho,hd⟩,hr⟩:=hl
      have hL:L∈X.fs:=hs L (by unfold frs;rw [List.filterMap_cons,hf];exact List.mem_cons_self)
      obtain ⟨sl,e⟩:=I.base.slot L o ho (I.ok.frf L hL) hL fun z=>I.ok.exfs L z hL
      exact ⟨hk,⟨L,_,hf,hn,e,hd⟩,ih (fun b hb=>hs b (by unfold frs;rw [List.filterMap_cons,hf];exact List.mem_cons_of_mem _ hb)) hr⟩
  exact all X.outer (fun _ hb=>hb) I.ok.funs
theorem Inv.stack (I:Inv X pins σ H s):s.heap.FunFrames X.base X.stack:=by
  rcases I.ok.stk with e | ⟨e,hf⟩
  · rw [e];exact I.funs
  · rw [e]
    obtain ⟨m,hn,_⟩:=I.loc
    refine .cons (by rw [I.ok.kind];decide) hf hn ?_ I.funs
    exact Heap.get?_none_of_le (Nat.le_trans I.ok.bsz I.ok.above)
theorem Inv.stkSub (I:Inv X pins σ H s):∀ b∈frs X.stack,b∈X.env.locals::X.fs:=fun b hb=>by
  rcases I.ok.stk with e | ⟨e,hf⟩
  · rw [e] at hb;exact List.mem_cons_of_mem _ hb
  · rw [e] at hb
    unfold frs at hb
    rw [List.filterMap_cons,hf] at hb
    exact hb
theorem Inv.stkFree (I:Inv X pins σ H s):∀ b∈frs X.stack,H b=none:=fun b hb=>by
  rcases List.mem_cons.mp (I.stkSub b hb) with e | hb
  · rw [e];exact I.free
  · obtain ⟨_,o,ho,_⟩:=I.ok.funs.mem hb
    exact I.base.free b o ho (I.ok.frf b hb) fun z=>I.ok.exfs b z hb
theorem Inv.step {g':Array GenState}{t':Nat}{d':Drawn}{ch:List Addr}(I:Inv X pins σ H s)
    (hch:∀ b∈ch,(b∈X.ex∨X.s₀.heap.objs.size≤b)∧b≠X.env.locals∧(∀ x c,X.env.cells.lookup x=some c→c≠b)∧∀ p∈X.pn++pins,p.1≠b)
    (keep:∀ b o,b≠X.env.locals→b∉X.fs→b∉ch→s.heap.get? b=some o→H b=none→h'.get? b=some o)
    (slot:∀ b o,b≠X.env.locals→b∈X.fs→b∉ch→s.heap.get? b=some o→H b=none→∃ sl,h'.get? b=some { o with slots:=sl }) (free:∀ b o,b∉ch→s.heap.get? b=some o→H b=none→H' b=none)
    (there:∀ b o,b∉ch→s.heap.get? b=some o→∃ o',h'.get? b=some o')
    (tups:∀ b xs,H b=some (.tup xs)→H' b=some (.tup xs)) (frzs:∀ b o u,H b=some (.frz o u)→H' b=some (.frz o u)) (tbls:∀ b ps,H b=some (.tbl ps)→∃ more,H' b=some (.tbl (ps++more)))
    (ns:∀ m,s.heap.Ns X.env.locals m→h'.Ns X.env.locals m) (hok:HOk X.prog X.w H' h') (hg:AllBare g') :
    Inv X pins σ H' { s with heap:=h',gens:=g',drawn:=d',toks:=t' }:=by
  have neL:∀ b o,X.s₀.heap.get? b=some o→b≠X.env.locals:=fun b o e=>Nat.ne_of_lt (Nat.lt_of_lt_of_le (Heap.lt_size e) I.ok.above)
  have neC:∀ b o,X.s₀.heap.get? b=some o→b∉X.ex→b∉ch:=fun b o e hx hb=>by
    rcases (hch b hb).1 with z | z
    · exact hx z
    · exact absurd (Nat.lt_of_lt_of_le (Heap.lt_size e) z) (Nat.lt_irrefl _)
  have cellK:∀ x c,X.env.cells.lookup x=some c→∀ v,s.heap.IsCell c v→h'.IsCell c v:=fun x c e v ⟨o,ho,hd⟩=>by
    have nch:c∉ch:=fun z=>(hch c z).2.2.1 x c e rfl
    by_cases hc:c∈X.fs
    · obtain ⟨sl,q⟩:=slot c o (I.cne x c e) hc nch ho (I.freeC x c e)
      exact ⟨_,q,hd⟩
    · exact ⟨o,keep c o (I.cne x c e) hc nch ho (I.freeC x c e),hd⟩
  refine ⟨I.ok,I.os,hg,⟨fun b o e n hb hx=>?_,fun b o e n hb hx=>?_,fun b o e n hx=>?_,fun b o e hx=>?_,fun b xs e=>tups b xs (I.base.tups b xs e),fun b o xs e=>frzs b o xs (I.base.frzs b o xs e),fun b ps e=>?_⟩,?_,fun x c e=>?_,?_,fun x c e=>?_,fun p hp=>?_,hok,I.len⟩
  · exact keep b o (neL b o e) hb (neC b o e hx) (I.base.keep b o e n hb hx) (I.base.free b o e n hx)
  · obtain ⟨sl,e1⟩:=I.base.slot b o e n hb hx
    obtain ⟨sl',e2⟩:=slot b _ (neL b o e) hb (neC b o e hx) e1 (I.base.free b o e n hx)
    exact ⟨sl',e2⟩
  · obtain ⟨o',e1⟩:=I.base.there b o e hx
    exact free b o' (neC b o e hx) e1 (I.base.free b o e n hx)
  · obtain ⟨o',e1⟩:=I.base.there b o e hx
    exact there b o' (neC b o e hx) e1
  · obtain ⟨m1,e1⟩:=I.base.tbls b ps e
    obtain ⟨m2,e2⟩:=tbls b _ e1
    exact ⟨m1++m2,by rw [e2,Array.append_assoc]⟩
  · obtain ⟨m,hn,hl⟩:=I.loc
    refine ⟨m,ns m hn,fun i x v e1 e2 e3=>?_⟩
    obtain ⟨u,r,l⟩:=hl i x v e1 e2 e3
    refine ⟨u,r,?_⟩
    rcases l with l | ⟨k,c,e,z⟩
    · exact .inl l
    · exact .inr ⟨k,c,e,cellK x c e _ z⟩
  · obtain ⟨v,z⟩:=I.cell x c e
    exact ⟨v,cellK x c e v z⟩
  · obtain ⟨m,⟨o,_,_,ho,_⟩,_⟩:=I.loc
    exact free _ o (fun z=>(hch _ z).2.1 rfl) ho I.free
  · obtain ⟨v,o,ho,hd⟩:=I.cell x c e
    exact free c o (fun z=>(hch c z).2.2.1 x c e rfl) ho (I.freeC x c e)
  · obtain ⟨e,n,ne,nf,d⟩:=I.pin p hp
    have nch:p.1∉ch:=fun z=>(hch p.1 z).2.2.2 p hp rfl
    exact ⟨keep p.1 p.2 ne nf nch e n,free p.1 p.2 nch e n,ne,nf,d⟩
theorem Inv.un {t':Nat}(I:Inv X pins σ H s)(u:Un X.fs [] H H' s.heap h')(hok:HOk X.prog X.w H' h'):Inv X pins σ H' { s with heap:=h',toks:=t' }:=by
  obtain ⟨m,⟨o,es,ep,ho,r⟩,_⟩:=id I.loc
  obtain ⟨sl,hL⟩:=u.any ho I.free (by simp)
  exact I.step (g':=s.gens) (d':=s.drawn) (ch:=[]) (fun _ z=>nomatch z) (fun b o _ hb _ e n=>u.keep b o e n hb (by simp)) (fun b o _ hb _ e n=>u.slot b o e n hb (by simp)) (fun b o _ e n=>u.free b o e n (by simp)) (fun b o _ e=>u.there b o e (by simp)) u.tups u.frzs u.tbls (fun m' hm=>by
    obtain ⟨o',es',ep',ho',r'⟩:=hm
    rw [ho] at ho';cases ho'
    exact ⟨_,es',ep',hL,r'⟩) hok I.bare
theorem Inv.call {g':Array GenState}{t':Nat}{d':Drawn}{ch:List Addr}(I:Inv X pins σ H s)(u:Un (frs X.stack) ch H H' s.heap h')(hok:HOk X.prog X.w H' h')(hg:AllBare g')
    (hch:∀ b∈ch,(b∈X.ex∨X.s₀.heap.objs.size≤b)∧b≠X.env.locals∧(∀ x c,X.env.cells.lookup x=some c→c≠b)∧∀ p∈X.pn++pins,p.1≠b) :
    Inv X pins σ H' { s with heap:=h',gens:=g',drawn:=d',toks:=t' }:=by
  obtain ⟨m,⟨o,es,ep,ho,r⟩,_⟩:=id I.loc
  obtain ⟨sl,hL⟩:=u.any ho I.free fun z=>(hch _ z).2.1 rfl
  exact I.step (ch:=ch) hch (fun b o hL hb hc e n=>u.keep b o e n (fun z=>(List.mem_cons.mp (I.stkSub b z)).elim hL hb) hc) (fun b o _ _ hc e n=>u.any e n hc) (fun b o hc e n=>u.free b o e n hc) (fun b o hc e=>u.there b o e hc) u.tups u.frzs u.tbls (fun m' hm=>by
    obtain ⟨o',es',ep',ho',r'⟩:=hm
    rw [ho] at ho';cases ho'
    exact ⟨_,es',ep',hL,r'⟩) hok hg
theorem Inv.turned {t':Nat}{it:Addr}(I:Inv X pins σ H s)(k:∀ b o,b≠it→s.heap.get? b=some o→h'.get? b=some o)(hn:H it=none)(hL:it≠X.env.locals)
    (h1:it∈X.ex∨X.s₀.heap.objs.size≤it) (h2:∀ x c,X.env.cells.lookup x=some c→c≠it) (h3:∀ p∈X.pn++pins,p.1≠it):Inv X pins σ H { s with heap:=h',toks:=t' }:=by
  have nit:∀ b u,H b=some u→b≠it:=fun b u e z=>by rw [z,hn] at e;cases e
  refine I.step (g':=s.gens) (d':=s.drawn) (ch:=[it]) (fun b hb=>?_) (fun b o _ _ hc e _=>k b o (fun z=>hc (by simp [z])) e) (fun b o _ _ hc e _=>⟨o.slots,k b o (fun z=>hc (by simp [z])) e⟩) (fun _ _ _ _ n=>n)
    (fun b o hc e=>⟨o,k b o (fun z=>hc (by simp [z])) e⟩) (fun _ _ e=>e) (fun _ _ _ e=>e) (fun b ps e=>⟨#[],by rw [e];simp⟩) (fun m hm=>?_) (fun b u e=>?_) I.bare
  · have e:b=it:=by simpa using hb
    subst e
    exact ⟨h1,hL,h2,h3⟩
  · obtain ⟨o,es,ep,ho,r⟩:=hm
    exact ⟨o,es,ep,k _ o (Ne.symm hL) ho,r⟩
  · refine (I.hok b u e).stay (fun c v hc q=>k c v ?_ q) (fun _ q=>q) fun _ _ q=>q
    rcases hc with z | z
    · rw [z];exact nit b u e
    · exact nit c _ z
theorem Inv.tok (I:Inv X pins σ H s)(t:Nat):Inv X pins σ H { s with toks:=t }:=I.un (h':=s.heap) (t':=t) Un.refl I.hok
theorem Inv.kept {t':Nat}(I:Inv X pins σ H s)(k:∀ b u,s.heap.get? b=some u→h'.get? b=some u):Inv X pins σ H { s with heap:=h',toks:=t' }:=I.un (Un.kept k) (I.hok.kept k)
theorem Inv.laid {a:Addr}{o:HO}{t':Nat}(I:Inv X pins σ H s)(k:∀ b u,s.heap.get? b=some u→h'.get? b=some u)(hp:s.heap.objs.size≤a)(new:ObjOk X.prog X.w (upd H a o) h' a o) :
    Inv X pins σ (upd H a o) { s with heap:=h',toks:=t' }:=I.un (Un.laid k hp (I.hok.fresh hp)) (I.hok.laid k hp new)
theorem Inv.write {x e:Addr}{o:HO}{t':Nat}(I:Inv X pins σ H s)(mu:Mut (H x))(he:e=x∨H e=some (.own x))(k:∀ b u,b≠e→s.heap.get? b=some u→h'.get? b=some u)(heo:∃ u,h'.get? e=some u)
    (new:ObjOk X.prog X.w (upd H x o) h' x o):Inv X pins σ (upd H x o) { s with heap:=h',toks:=t' }:=I.un (Un.write mu he k heo) (I.hok.write mu he k heo new)
theorem Inv.weak {σ':List (Option V)}(I:Inv X pins σ H s)(hl:σ'.length=σ.length)(w:∀ (i:Nat) v,σ'[i]?=some (some v)→σ[i]?=some (some v)):Inv X pins σ' H s :=
  ⟨I.ok,I.os,I.bare,I.base,let ⟨m,hn,hl'⟩:=I.loc;⟨m,hn,fun i x v e1 e2 e3=>hl' i x v e1 (w i v e2) e3⟩,I.cell,I.free,I.freeC,I.pin,I.hok,hl.trans I.len⟩
theorem Inv.pins_of {pins':List (Addr × Obj)}(I:Inv X pins σ H s)(h:∀ p∈pins',s.heap.get? p.1=some p.2∧H p.1=none∧p.1≠X.env.locals∧p.1∉X.fs∧∀ v,p.2.data≠.cell v):Inv X pins' σ H s :=
  ⟨I.ok,I.os,I.bare,I.base,I.loc,I.cell,I.free,I.freeC,fun p hp=>(List.mem_append.mp hp).elim (fun z=>I.pin p (List.mem_append_left _ z)) (h p),I.hok,I.len⟩
theorem nodup_ix {N:List Str}(hN:N.Nodup){i j:Nat}{x:Str}(a:N[i]?=some x)(b:N[j]?=some x):i=j:=by
  obtain ⟨h1,e1⟩:=List.getElem?_eq_some_iff.mp a
  obtain ⟨h2,e2⟩:=List.getElem?_eq_some_iff.mp b
  exact (List.getElem_inj hN).mp (e1.trans e2.symm)
theorem store_ok2 {M:Model} {A:Around} {E:Value→Shared→Prop} {i:Nat} {x:Str} {v:V} {u:Value} {Q:Unit→Shared→Prop} (I:Inv X pins σ H s) (hN:X.N.Nodup) (hi:X.N[i]?=some x) (hx:Loc X.env.scope x) (r:RelV v u)
    (h:∀ s',Inv X pins (σ.set i (some v)) H s'→(∃ a,Heap.SameBut a s.heap s'.heap∧(a=X.env.locals∨X.env.cells.lookup x=some a))→Q () s') (hf:X.fn x=true∨X.env.scope.names.lookup x=some .local:=by first | exact .inl rfl | exact .inr rfl | assumption):wpAny M A (storeName X.env x u) Q E s:=by
  obtain ⟨m,hn,hl⟩:=id I.loc
  have hcls:(X.env.scope.kind==.class||(X.env.scope.kind==.module&&X.env.locals != X.env.globals))=false:=by rw [I.ok.kind];rfl
  have hiσ:i<σ.length:=by rw [I.len];exact (List.getElem?_eq_some_iff.mp hi).1
  have cne:=I.cne
  have tracked:∀ {a:Addr} {h':Heap},(∃ o,s.heap.get? a=some o∧H a=none)→Heap.SameBut a s.heap h'→HOk X.prog X.w H h':=fun {a h'} ha hs b ob e=>by
    obtain ⟨_,_,hfree⟩:=ha
    refine (I.hok b ob e).stay (fun c w' hc q=>(hs.2 c ?_).trans q) (fun _ q=>q) fun _ _ q=>q
    rintro rfl
    rcases hc with rfl | hc
    · rw [hfree] at e;cases e
    · rw [hfree] at hc;cases hc
  rcases hx with hk | hk
  · refine wpAny_storeName_local hk hn (fun h' hn' hs=>?_) hcls
    obtain ⟨oL,_,_,hoL,_⟩:=id hn
    refine h _ ⟨I.ok,I.os,I.bare,⟨fun b o e n hb hx=>?_,fun b o e n hb hx=>?_,I.base.free,fun b o e hx=>?_,I.base.tups,I.base.frzs,I.base.tbls⟩,⟨_,hn',fun j y v' e1 e2 e3=>?_⟩,fun y c e=>?_,I.free,I.freeC,fun p hp=>?_,tracked ⟨oL,hoL,I.free⟩ hs,by simpa using I.len⟩ ⟨_,hs,.inl rfl⟩
    · exact (hs.2 b (Nat.ne_of_lt (Nat.lt_of_lt_of_le (Heap.lt_size e) I.ok.above))).trans (I.base.keep b o e n hb hx)
    · obtain ⟨sl,e1⟩:=I.base.slot b o e n hb hx
      exact ⟨sl,(hs.2 b (Nat.ne_of_lt (Nat.lt_of_lt_of_le (Heap.lt_size e) I.ok.above))).trans e1⟩
    · obtain ⟨o',e1⟩:=I.base.there b o e hx
      exact ⟨o',(hs.2 b (Nat.ne_of_lt (Nat.lt_of_lt_of_le (Heap.lt_size e) I.ok.above))).trans e1⟩
    · by_cases hj:j=i
      · subst hj
        rw [hi] at e1;cases e1
        rw [List.getElem?_set_self hiσ] at e2
        cases e2
        exact ⟨u,r,.inl ⟨hk,by simp⟩⟩
      · rw [List.getElem?_set_ne (Ne.symm hj)] at e2
        obtain ⟨u',r',q⟩:=hl j y v' e1 e2 e3
        refine ⟨u',r',?_⟩
        rcases q with ⟨k,e⟩ | ⟨k,c,e,z⟩
        · refine .inl ⟨k,?_⟩
          have:y≠x:=fun e=>hj (nodup_ix hN e1 (e ▸ hi))
          simp [this,e]
        · exact .inr ⟨k,c,e,z.sameBut hs (cne y c e)⟩
    · obtain ⟨w',z⟩:=I.cell y c e
      exact ⟨w',z.sameBut hs (cne y c e)⟩
    · obtain ⟨e,n,ne,nf,d⟩:=I.pin p hp
      exact ⟨(hs.2 p.1 ne).trans e,n,ne,nf,d⟩
  · have hfn:X.fn x=true:=by
      rcases hf with z | z
      · exact z
      · rw [z] at hk;cases hk
    obtain ⟨c,hc⟩:=I.ok.has x (.inl hk)
    obtain ⟨w',z⟩:=I.cell x c hc
    refine wpAny_storeName_cell I.ok.kind hk hc z (fun h' hc' hs=>?_)
    obtain ⟨oc,hoc,hocd⟩:=id z
    refine h { s with heap:=h' } ⟨I.ok,I.os,I.bare,⟨fun b o e n hb hx=>?_,fun b o e n hb hx=>?_,I.base.free,fun b o e hx=>?_,I.base.tups,I.base.frzs,I.base.tbls⟩,⟨m,hn.sameBut hs (Ne.symm (cne x c hc)),fun j y v' e1 e2 e3=>?_⟩,fun y c' e=>?_,I.free,I.freeC,fun p hp=>?_,tracked ⟨oc,hoc,I.freeC x c hc⟩ hs,by simpa using I.len⟩ ⟨c,hs,.inr hc⟩
    · exact (hs.2 b (Nat.ne_of_lt (Nat.lt_of_lt_of_le (Heap.lt_size e) (I.ok.cab x c hfn hc)))).trans (I.base.keep b o e n hb hx)
    · obtain ⟨sl,e1⟩:=I.base.slot b o e n hb hx
      exact ⟨sl,(hs.2 b (Nat.ne_of_lt (Nat.lt_of_lt_of_le (Heap.lt_size e) (I.ok.cab x c hfn hc)))).trans e1⟩
    · obtain ⟨o',e1⟩:=I.base.there b o e hx
      exact ⟨o',(hs.2 b (Nat.ne_of_lt (Nat.lt_of_lt_of_le (Heap.lt_size e) (I.ok.cab x c hfn hc)))).trans e1⟩
    · by_cases hj:j=i
      · subst hj
        rw [hi] at e1;cases e1
        rw [List.getElem?_set_self hiσ] at e2
        cases e2
        exact ⟨u,r,.inr ⟨.inl hk,c,hc,hc'⟩⟩
      · rw [List.getElem?_set_ne (Ne.symm hj)] at e2
        obtain ⟨u',r',q⟩:=hl j y v' e1 e2 e3
        refine ⟨u',r',?_⟩
        rcases q with q | ⟨k,c',e,z'⟩
        · exact .inl q
        · refine .inr ⟨k,c',e,z'.sameBut hs ?_⟩
          rintro rfl
          exact hj (nodup_ix hN e1 (I.ok.inj _ _ _ e hc ▸ hi))
    · by_cases hcc:c'=c
      · subst hcc;exact ⟨_,hc'⟩
      · obtain ⟨w2,z2⟩:=I.cell y c' e
        exact ⟨w2,z2.sameBut hs hcc⟩
    · obtain ⟨e,n,ne,nf,d⟩:=I.pin p hp
      refine ⟨(hs.2 p.1 ?_).trans e,n,ne,nf,d⟩
      intro q
      rw [q,hoc] at e
      have q':oc=p.2:=Option.some.inj e
      exact d w' (by rw [← q'];exact hocd)
theorem store_ok {M:Model}{A:Around}{E:Value→Shared→Prop}{i:Nat}{x:Str}{v:V}{u:Value}{Q:Unit→Shared→Prop}(I:Inv X pins σ H s)(hN:X.N.Nodup)(hi:X.N[i]?=some x)(hx:Loc X.env.scope x)(r:RelV v u)
    (h:∀ s',Inv X pins (σ.set i (some v)) H s'→Q () s') (hf:X.fn x=true∨X.env.scope.names.lookup x=some .local:=by first | exact .inl rfl | exact .inr rfl | assumption):wpAny M A (storeName X.env x u) Q E s :=
  store_ok2 I hN hi hx r (fun s' I' _=>h s' I') hf
theorem Inv.call' {s':Shared}{ch:List Addr}(I:Inv X pins σ H s)(ho:s'.os=s.os)(u:Un (frs X.stack) ch H H' s.heap s'.heap)(hok:HOk X.prog X.w H' s'.heap)(hg:AllBare s'.gens)
    (hch:∀ b∈ch,(b∈X.ex∨X.s₀.heap.objs.size≤b)∧b≠X.env.locals∧(∀ x c,X.env.cells.lookup x=some c→c≠b)∧∀ p∈X.pn++pins,p.1≠b):Inv X pins σ H' s':=by
  obtain ⟨h',g',d',t',o'⟩:=s'
  have e:o'=s.os:=ho
  subst e
  exact I.call (g':=g') (t':=t') (d':=d') u hok hg hch
end
abbrev XK:=Value→Option Addr→Hp→Prop
abbrev St:=List (Option V)
abbrev VK:=V→Hp→Prop
abbrev TE:=St→Hp→VK→Prop
abbrev TT:=St→Hp→(Bool→Hp→Prop)→Prop
abbrev TA:=St→Hp→(List V→Hp→Prop)→Prop
structure Ends where
  nx:St→Hp→Prop
  rt:VK
  bk:St→Hp→Prop:=fun _ _=>False
  ct:St→Hp→Prop:=fun _ _=>False
abbrev TS:=Ends→St→Hp→Prop
def EP (X:Cx)(pins:List (Addr × Obj))(σ:St)(Q:VK)(u:Value)(s':Shared):Prop:=∃ v H',Inv X pins σ H' s'∧RelV v u∧Q v H'
def TP (X:Cx)(pins:List (Addr × Obj))(σ:St)(Q:Bool→Hp→Prop)(b:Bool)(s':Shared):Prop:=∃ H',Inv X pins σ H' s'∧Q b H'
def AP (X:Cx)(pins:List (Addr × Obj))(σ:St)(Q:List V→Hp→Prop)(us:List Value)(s':Shared):Prop:=∃ vs H',Inv X pins σ H' s'∧Vals vs us∧Q vs H'
def SP (X:Cx)(pins:List (Addr × Obj))(D:Ends)(f:Flow)(s':Shared):Prop :=
  match f with
  | .next=>∃ σ' H',Inv X pins σ' H' s'∧D.nx σ' H'
  | .brk=>∃ σ' H',Inv X pins σ' H' s'∧D.bk σ' H'
  | .cont=>∃ σ' H',Inv X pins σ' H' s'∧D.ct σ' H'
  | .ret u=>∃ v σ' H',Inv X pins σ' H' s'∧RelV v u∧D.rt v H'
def PE (X:Cx)(e:Expr)(t:TE):Prop :=
  ∀ (pins:List (Addr × Obj)) (s:Shared) (σ:St) (H:Hp) (Q:VK),Inv X pins σ H s→t σ H Q→wpAny (model X.prog X.w) X.A (eval e X.env) (EP X pins σ Q) X.xe s
def PT (X:Cx)(e:Expr)(t:TT):Prop :=
  ∀ (pins:List (Addr × Obj)) (s:Shared) (σ:St) (H:Hp) (Q:Bool→Hp→Prop),Inv X pins σ H s→t σ H Q→wpAny (model X.prog X.w) X.A (isTrue e X.env (eval e X.env)) (TP X pins σ Q) X.xe s
def PW (X:Cx)(e:Expr)(t:TT):Prop :=
  ∀ (whole:Sem Value) (pins:List (Addr × Obj)) (s:Shared) (σ:St) (H:Hp) (Q:Bool→Hp→Prop),Inv X pins σ H s→t σ H Q→wpAny (model X.prog X.w) X.A (isTrue e X.env whole) (TP X pins σ Q) X.xe s
theorem PW.pt {X:Cx}{e:Expr}{t:TT}(h:PW X e t):PT X e t:=h _
def PA (X:Cx)(es:List Expr)(t:TA):Prop :=
  ∀ (pos:Pos) (pins:List (Addr × Obj)) (s:Shared) (σ:St) (H:Hp) (Q:List V→Hp→Prop),Inv X pins σ H s→t σ H Q→wpAny (model X.prog X.w) X.A (spliced (backTo pos (starEach es X.env))) (AP X pins σ Q) X.xe s
def PS (X:Cx)(st:Stmt)(t:TS):Prop :=
  ∀ (pins:List (Addr × Obj)) (s:Shared) (σ:St) (H:Hp) (D:Ends),Inv X pins σ H s→t D σ H→wpAny (model X.prog X.w) X.A (exec st X.env) (SP X pins D) X.xe s
def PSs (X:Cx)(st:List Stmt)(t:TS):Prop :=
  ∀ (pins:List (Addr × Obj)) (s:Shared) (σ:St) (H:Hp) (D:Ends),Inv X pins σ H s→t D σ H→wpAny (model X.prog X.w) X.A (execs st X.env) (SP X pins D) X.xe s
theorem thn {α:Type}{t:Sem α}{Q Q':α→Shared→Prop}{M:Model}{A:Around}{E:Value→Shared→Prop}{s:Shared}(h:wpAny M A t Q E s)(hQ:∀ a s,Q a s→Q' a s):wpAny M A t Q' E s:=wpAny_mono h hQ fun _ _ x=>x
end L2
namespace L2
open PySem PySem.Spec PyProof.Rows
section
variable {X:Cx}
def tVar (i:Nat):TE:=fun σ H Q=>∃ v,σ[i]?=some (some v)∧Q v H
def tC (v:V):TE:=fun _ H Q=>Q v H
theorem pe_var {i:Nat}{x:Str}{pos:Pos}(hN:X.N[i]?=some x)(hv:Vis X.env.scope x)(hd:(x==("__debug__":Str))=false:=by decide)(hcd:(x==("__classdict__":Str))=false:=by decide):PE X (.Name x pos) (tVar i):=by
  intro pins s σ H Q I h
  obtain ⟨v,e,h⟩:=h
  obtain ⟨m,hn,hl⟩:=I.loc
  obtain ⟨u,r,l⟩:=hl i x v hN e hv
  have fin:EP X pins σ Q u s:=⟨v,H,I,r,h⟩
  rcases l with ⟨hk,hm⟩ | ⟨hk,c,hc,hcell⟩
  · exact wpAny_Name (wpAny_loadName_local I.ok.kind hk hn hm fin) hd
  · rcases hk with hk | hk
    · exact wpAny_Name (wpAny_loadName_cell I.ok.kind hk hc hcell fin) hd
    · exact wpAny_Name (wpAny_loadName_free I.ok.kind hk hc hcell fin hcd) hd
theorem pe_int {i j pos}:PE X (.Constant (.int i) j pos) (tC (.int i)):=fun _ _ _ H _ I h=>wpAny_Constant_int ⟨.int i,H,I.tok _,⟨_,rfl⟩,h⟩
theorem pe_bl {b j pos}:PE X (.Constant (.bool b) j pos) (tC (.bl b)):=fun _ _ _ H _ I h=>Constant_bool ⟨.bl b,H,I,rfl,h⟩
theorem pe_non {j pos}:PE X (.Constant .none j pos) (tC .non):=fun _ _ _ H _ I h=>Constant_none ⟨.non,H,I,rfl,h⟩
theorem pe_str {x j pos}:PE X (.Constant (.str x) j pos) (tC (.str x)):=fun _ _ _ H _ I h=>Calls.Constant_str ⟨.str x,H,I.tok _,⟨_,rfl⟩,h⟩
def Gl (X:Cx)(x:Str):Prop:=X.env.kindOf x=some .globalImplicit
theorem ld_glob {E:Value→Shared→Prop}{pins:List (Addr × Obj)}{s:Shared}{σ:St}{H:Hp}{x:Str}{u:Value}{pos:Pos}{Q:Value→Shared→Prop}(I:Inv X pins σ H s)(hg:Gl X x)(hm:X.mg x=some u)(h:Q u s)
    (hd:(x==("__debug__":Str))=false:=by decide):wpAny (model X.prog X.w) X.A (eval (.Name x pos) X.env) Q E s :=
  Calls.Name_function_global I.ok.kind hg (Calls.loadGlobal_global (by rw [I.ok.glob];exact I.mod.glob.keeps I.bk) hm h) hd
theorem ld_blt {E:Value→Shared→Prop}{pins:List (Addr × Obj)}{s:Shared}{σ:St}{H:Hp}{x:Str}{u:Value}{pos:Pos}{Q:Value→Shared→Prop}(I:Inv X pins σ H s)(hg:Gl X x)(hm:X.mg x=none)(hv:bootBuiltins x=some u)(h:Q u s)
    (hn:x≠"__name__":=by decide) (hd:(x==("__debug__":Str))=false:=by decide):wpAny (model X.prog X.w) X.A (eval (.Name x pos) X.env) Q E s:=by
  obtain ⟨mb,h1,h2⟩:=I.mod.blt
  exact Calls.Name_function_global I.ok.kind hg (Calls.loadGlobal_builtin (by rw [I.ok.glob];exact I.mod.glob.keeps I.bk) hm (by rw [I.ok.blt];exact h1.keeps I.bk) ((h2 x hn).trans hv) h) hd
theorem pe_glob {x:Str}{v:V}{u:Value}{pos:Pos}(hg:Gl X x)(hm:X.mg x=some u)(r:RelV v u)(hd:(x==("__debug__":Str))=false:=by decide):PE X (.Name x pos) (tC v) :=
  fun _ _ _ H _ I h=>ld_glob I hg hm ⟨v,H,I,r,h⟩ hd
theorem pe_bltn {x:Str}{v:V}{u:Value}{pos:Pos}(hg:Gl X x)(hm:X.mg x=none)(hv:bootBuiltins x=some u)(r:RelV v u)(hn:x≠"__name__":=by decide)(hd:(x==("__debug__":Str))=false:=by decide):PE X (.Name x pos) (tC v) :=
  fun _ _ _ H _ I h=>ld_blt I hg hm hv ⟨v,H,I,r,h⟩ hn hd
variable {a b:Expr}{ta tb:TE}{pos:Pos}
def PC (X:Cx) (op:CmpOp) (a b:Expr) (t:TE):Prop :=
  ∀ (pins:List (Addr × Obj)) (s:Shared) (σ:St) (H:Hp) (Q:VK),Inv X pins σ H s→t σ H Q →
    wpAny (model X.prog X.w) X.A (eval a X.env) (fun v s₁=>wpAny (model X.prog X.w) X.A (eval b X.env) (fun u s₂=>wpAny (model X.prog X.w) X.A (compareOp op v u) (EP X pins σ Q) X.xe s₂) X.xe s₁) X.xe s
theorem nobehind (b:Expr){op:CmpOp}(h:op≠.In)(h2:op≠.NotIn):behindInMarks op b=false:=by
  have e1:(op==CmpOp.In)=false:=by cases op<;>first | rfl | exact absurd rfl h
  have e2:(op==CmpOp.NotIn)=false:=by cases op<;>first | rfl | exact absurd rfl h2
  cases b<;>simp [behindInMarks,e1,e2]
def tB (t:TE):TT:=fun σ H Q=>t σ H fun x H1=>∃ c,x=.bl c∧Q c H1
theorem pt_cmp {op:CmpOp}{t:TE}(h:PC X op a b t)(h1:behindInMarks op b=false:=by first | exact nobehind _ (by decide) (by decide) | rfl):PT X (.Compare a [op] [b] pos) (tB t):=by
  intro pins s σ H Q I hw
  refine wpAny_isTrue_Compare1 (thn (h pins s σ H _ I hw) fun v s1 h1=>thn h1 fun u s2 h2=>thn h2 fun c s3 ⟨x,H1,I1,r1,q1⟩=>?_) h1
  obtain ⟨d,rfl,q⟩:=q1
  cases r1
  exact wpAny_truthy_bool ⟨H1,I1,q⟩
theorem pt_val {e:Expr}{t:TE}(h:PE X e t)(he:∀ whole,isTrue e X.env whole=(do let v ← whole;standAt e.pos;holding [v] (truthy v)):=by intro _;rfl):PT X e (tB t):=by
  intro pins s σ H Q I hw
  refine isTrue_plain (thn (h pins s σ H _ I hw) fun v s1 ⟨x,H1,I1,r1,q1⟩=>?_) (he _)
  obtain ⟨d,rfl,q⟩:=q1
  cases r1
  exact wpAny_truthy_bool ⟨H1,I1,q⟩
variable {tA tB':TT}{rest:List Expr}
def tAnd (t u:TT):TT:=fun σ H Q=>t σ H fun c H1=>if c=true then u σ H1 Q else Q false H1
def tOr (t u:TT):TT:=fun σ H Q=>t σ H fun c H1=>if c=true then Q true H1 else u σ H1 Q
def tNot (t:TT):TT:=fun σ H Q=>t σ H fun c H1=>Q (!c) H1
theorem pw_and1 (ha:PT X a tA):PW X (.BoolOp .And [a] pos) tA:=by
  intro wh pins s σ H Q I h
  refine isTrue_and (thn (ha pins s σ H Q I h) fun c s1 e=>?_)
  cases c with
  | true=>exact isTrue_and_nil e
  | false=>exact e
theorem pw_or1 (ha:PT X a tA):PW X (.BoolOp .Or [a] pos) tA:=by
  intro wh pins s σ H Q I h
  refine isTrue_or (thn (ha pins s σ H Q I h) fun c s1 e=>?_)
  cases c with
  | false=>exact isTrue_or_nil e
  | true=>exact e
theorem pw_and (ha:PT X a tA)(hb:PW X (.BoolOp .And (b::rest) pos) tB'):PW X (.BoolOp .And (a::b::rest) pos) (tAnd tA tB'):=by
  intro wh pins s σ H Q I h
  refine isTrue_and (thn (ha pins s σ H _ I h) fun c s1 ⟨H1,I1,q1⟩=>?_)
  cases c with
  | true=>exact hb wh pins s1 σ H1 Q I1 q1
  | false=>exact ⟨H1,I1,q1⟩
theorem pw_or (ha:PT X a tA)(hb:PW X (.BoolOp .Or (b::rest) pos) tB'):PW X (.BoolOp .Or (a::b::rest) pos) (tOr tA tB'):=by
  intro wh pins s σ H Q I h
  refine isTrue_or (thn (ha pins s σ H _ I h) fun c s1 ⟨H1,I1,q1⟩=>?_)
  cases c with
  | true=>exact ⟨H1,I1,q1⟩
  | false=>exact hb wh pins s1 σ H1 Q I1 q1
theorem pt_not (ha:PT X a tA):PT X (.UnaryOp .Not a pos) (tNot tA):=by
  intro pins s σ H Q I h
  exact isTrue_not (ha pins s σ H (fun c H1=>Q (!c) H1) I h)
def tAndV (ta tb:TE):TE:=fun σ H Q=>ta σ H fun x H1=>∃ c,x=.bl c∧if c=true then tb σ H1 Q else Q (.bl false) H1
def tNotV (ta:TE):TE:=fun σ H Q=>ta σ H fun x H1=>∃ c,x=.bl c∧Q (.bl (!c)) H1
theorem pe_one {op}{t:TE}(h:PE X a t):PE X (.BoolOp op [a] pos) t:=fun pins s σ H Q I hw=>BoolOp_one (h pins s σ H Q I hw)
theorem pe_and (ha:PE X a ta)(hb:PE X (.BoolOp .And (b::rest) pos) tb):PE X (.BoolOp .And (a::b::rest) pos) (tAndV ta tb):=by
  intro pins s σ H Q I h
  refine BoolOp_and (thn (ha pins s σ H _ I h) fun v s1 ⟨x,H1,I1,r1,q1⟩=>?_)
  obtain ⟨c,rfl,q1⟩:=q1
  cases r1
  refine wpAny_truthy_bool ?_
  cases c with
  | true=>exact hb pins s1 σ H1 Q I1 q1
  | false=>exact ⟨.bl false,H1,I1,rfl,q1⟩
theorem pe_not (ha:PE X a ta):PE X (.UnaryOp .Not a pos) (tNotV ta):=by
  intro pins s σ H Q I h
  refine UnaryOp_ (thn (ha pins s σ H _ I h) fun v s1 ⟨x,H1,I1,r1,q1⟩=>?_)
  obtain ⟨c,rfl,q1⟩:=q1
  cases r1
  exact not_of (wpAny_truthy_bool ⟨.bl (!c),H1,I1,rfl,q1⟩)
def tIf (t:TT)(ta tb:TE):TE:=fun σ H Q=>t σ H fun c H1=>if c=true then ta σ H1 Q else tb σ H1 Q
theorem pe_ifExp {c:Expr}(hc:PT X c tA)(ha:PE X a ta)(hb:PE X b tb):PE X (.IfExp c a b pos) (tIf tA ta tb):=by
  intro pins s σ H Q I h
  refine wpAny_IfExp (thn (hc pins s σ H _ I h) fun d s1 ⟨H1,I1,q1⟩=>?_)
  cases d with
  | true=>exact ha pins s1 σ H1 Q I1 q1
  | false=>exact hb pins s1 σ H1 Q I1 q1
end
end L2
namespace L2
open PySem PySem.Spec PyProof.Rows
def SqL (K:PySem.W.Frag) (H:Hp) (a:Addr) (xs:List V):Prop :=
  Rd H a (.lst xs) ∨
    ∃ (o:Obj) (its:Array Value) (n:Nat),K.lookup a=some o∧o.cls=.type "list"∧o.dict=none∧o.data=.seq its n∧its.size≤sizeLine∧Vals xs its.toList
def SqT (K:PySem.W.Frag) (H:Hp) (a:Addr) (xs:List V):Prop :=
  Rd H a (.tup xs) ∨
    ∃ (o:Obj) (its:Array Value) (n:Nat),K.lookup a=some o∧o.cls=.type "tuple"∧o.data=.seq its n∧its.size≤sizeLine∧Vals xs its.toList
def absV:Value→Option V
  | .none=>some .non
  | .bool b=>some (.bl b)
  | .int i _=>some (.int i)
  | .str x _=>some (.str x)
  | .bytes b _=>some (.byt b)
  | .float b _=>some (.flt b)
  | .ref a=>some (.ref a)
  | .type n=>some (.ty n)
  | _=>none
theorem RelV.abs {x:V}{u:Value}(r:RelV x u):absV u=some x:=by
  cases x with
  | non=>cases r;rfl
  | bl _=>cases r;rfl
  | int _=>obtain ⟨t,rfl⟩:=r;rfl
  | str _=>obtain ⟨t,rfl⟩:=r;rfl
  | byt _=>obtain ⟨t,rfl⟩:=r;rfl
  | flt _=>obtain ⟨t,rfl⟩:=r;rfl
  | ref _=>cases r;rfl
  | ty _=>cases r;rfl
theorem RelV.inj {x y:V}{u:Value}(r:RelV x u)(q:RelV y u):x=y:=Option.some.inj (r.abs.symm.trans q.abs)
theorem Vals.inj:∀ {xs ys:List V} {us:List Value},Vals xs us→Vals ys us→xs=ys
  | _,_,_,.nil,.nil=>rfl
  | _,_,_,.cons r t,.cons r' t'=>by rw [r.inj r',Vals.inj t t']
section
variable {X:Cx}{pins:List (Addr × Obj)}{σ:St}{H:Hp}{s:Shared}{a:Addr}{xs ys:List V}
theorem SqL.of {K:PySem.W.Frag}(h:H a=some (.lst xs)):SqL K H a xs:=.inl (.inl h)
theorem Inv.list (I:Inv X pins σ H s)(h:SqL X.K H a xs):∃ its:List Value,Vals xs its∧PlainL s.heap a its.toArray∧xs.length≤sizeLine:=by
  rcases h with h | ⟨o,its,n,hk,hc,hd,hs,hz,r⟩
  · obtain ⟨z,its,n,r,e⟩:=h.ok I.hok
    exact ⟨its,r,⟨_,n,e,rfl,rfl,rfl⟩,z⟩
  · refine ⟨its.toList,r,⟨o,n,I.kIn a o hk,hc,hd,by simpa using hs⟩,?_⟩
    have e:=r.length
    simp only [Array.length_toList] at e
    omega
theorem Inv.tuple (I:Inv X pins σ H s)(h:SqT X.K H a xs):∃ its:List Value,Vals xs its∧IsTup s.heap a its.toArray∧xs.length≤sizeLine:=by
  rcases h with h | ⟨o,its,n,hk,hc,hs,hz,r⟩
  · obtain ⟨z,its,r,p⟩:=h.ok I.hok
    exact ⟨its,r,p,z⟩
  · refine ⟨its.toList,r,⟨o,I.kIn a o hk,hc,n,by simpa using hs⟩,?_⟩
    have e:=r.length
    simp only [Array.length_toList] at e
    omega
theorem Inv.list_inj (I:Inv X pins σ H s)(h:SqL X.K H a xs)(h':SqL X.K H a ys):xs=ys:=by
  obtain ⟨its,r,⟨o,n,e,_,_,d⟩,_⟩:=I.list h
  obtain ⟨its',r',⟨o',n',e',_,_,d'⟩,_⟩:=I.list h'
  rw [e] at e';cases e'
  rw [d] at d'
  injection d' with d1 _
  have:its=its':=by simpa using congrArg Array.toList d1
  subst this
  exact r.inj r'
end
abbrev Cx.wish (X:Cx)(E:Value→Shared→Prop):Cx:={ X with xe:=E }
abbrev Cx.nox (X:Cx):Cx:=X.wish fun _ _=>False
theorem Cx.Ok.wish {X:Cx}(ok:X.Ok)(E:Value→Shared→Prop):(X.wish E).Ok :=
  ⟨ok.mod,ok.kind,ok.glob,ok.blt,ok.above,ok.inj,ok.has,ok.cab,ok.hd,ok.frames,ok.stk,ok.exf,ok.bs,ok.bsz,ok.noex,ok.exfs,ok.funs,ok.frf⟩
theorem Cx.Ok.unwish {X:Cx}{E:Value→Shared→Prop}(ok:(X.wish E).Ok):X.Ok :=
  ⟨ok.mod,ok.kind,ok.glob,ok.blt,ok.above,ok.inj,ok.has,ok.cab,ok.hd,ok.frames,ok.stk,ok.exf,ok.bs,ok.bsz,ok.noex,ok.exfs,ok.funs,ok.frf⟩
section
variable {X:Cx}{pins:List (Addr × Obj)}{σ:St}{H:Hp}{s:Shared}{E:Value→Shared→Prop}
theorem Inv.wish (I:Inv X pins σ H s)(E:Value→Shared→Prop):Inv (X.wish E) pins σ H s:=⟨I.ok.wish E,I.os,I.bare,I.base,I.loc,I.cell,I.free,I.freeC,I.pin,I.hok,I.len⟩
theorem Inv.unwish (I:Inv (X.wish E) pins σ H s):Inv X pins σ H s:=⟨I.ok.unwish,I.os,I.bare,I.base,I.loc,I.cell,I.free,I.freeC,I.pin,I.hok,I.len⟩
theorem SP.unwish {D:Ends}{f:Flow}{s':Shared}(h:SP (X.wish E) pins D f s'):SP X pins D f s':=by
  cases f with
  | next=>obtain ⟨σ',H',I,q⟩:=h;exact ⟨σ',H',I.unwish,q⟩
  | brk=>obtain ⟨σ',H',I,q⟩:=h;exact ⟨σ',H',I.unwish,q⟩
  | cont=>obtain ⟨σ',H',I,q⟩:=h;exact ⟨σ',H',I.unwish,q⟩
  | ret u=>obtain ⟨v,σ',H',I,r,q⟩:=h;exact ⟨v,σ',H',I.unwish,r,q⟩
theorem PSs.nox {st:List Stmt}{t:TS}(h:PSs X.nox st t):PSs X st t:=fun pins s σ H D I hw =>
  wpAny_mono (h pins s σ H D (I.wish _) hw) (fun _ _ q=>q.unwish) fun _ _ z=>False.elim z
end
section
variable {X:Cx}{st:Stmt}{rest:List Stmt}{t u:TS}{e:Expr}{te:TE}{pos:Pos}
def tNext:TS:=fun D σ H=>D.nx σ H
def tSeq (t u:TS):TS:=fun D σ H=>t { D with nx:=u D } σ H
theorem pss_nil:PSs X [] tNext:=fun _ _ σ H _ I h=>wpAny_execs_nil ⟨σ,H,I,h⟩
theorem pss_cons (h1:PS X st t)(h2:PSs X rest u):PSs X (st::rest) (tSeq t u):=by
  intro pins s σ H D I h
  refine wpAny_execs_cons (thn (h1 pins s σ H { D with nx:=u D } I h) fun f s1 q=>?_)
  cases f with
  | next =>
    obtain ⟨σ',H',I',q⟩:=q
    exact h2 pins s1 σ' H' D I' q
  | ret v=>exact q
  | brk=>exact q
  | cont=>exact q
theorem pss_one (h1:PS X st t):PSs X [st] t:=by
  intro pins s σ H D I h
  refine wpAny_execs_cons (thn (h1 pins s σ H D I h) fun f s1 q=>?_)
  cases f with
  | next=>exact wpAny_execs_nil q
  | ret v=>exact q
  | brk=>exact q
  | cont=>exact q
theorem Inv.quiet {pins:List (Addr × Obj)}{σ:St}{H:Hp}{s:Shared}(I:Inv X pins σ H s):interactive X.env=false:=by simp [interactive,I.ok.kind]
def tDrop (te:TE):TS:=fun D σ H=>te σ H fun _ H1=>D.nx σ H1
theorem ps_expr (he:PE X e te)(hs:swapsWith e none pos.line X.env=pure false:=by rfl):PS X (.Expr e pos) (tDrop te):=by
  intro pins s σ H D I h
  exact wpAny_Expr_any (thn (he pins s σ H _ I h) fun v s1 ⟨x,H1,I1,r1,q1⟩=>⟨σ,H1,I1,q1⟩) I.quiet hs
def tRet (te:TE):TS:=fun D σ H=>te σ H D.rt
theorem ps_ret (he:PE X e te):PS X (.Return (some e) pos) (tRet te):=by
  intro pins s σ H D I h
  exact wpAny_Return_some (thn (he pins s σ H _ I h) fun v s1 ⟨x,H1,I1,r1,q1⟩=>⟨x,σ,H1,I1,r1,q1⟩)
def tIfS (c:TT)(t u:TS):TS:=fun D σ H=>c σ H fun b H1=>if b=true then t D σ H1 else u D σ H1
theorem ps_if {c:Expr}{a b:List Stmt}{tc:TT}(hc:PT X c tc)(ha:PSs X a t)(hb:PSs X b u):PS X (.If c a b pos) (tIfS tc t u):=by
  intro pins s σ H D I h
  refine wpAny_If (thn (hc pins s σ H _ I h) fun d s1 ⟨H1,I1,q1⟩=>?_)
  cases d with
  | true=>exact ha pins s1 σ H1 D I1 q1
  | false=>exact hb pins s1 σ H1 D I1 q1
def tNever:TS:=fun _ _ _=>False
theorem ps_never:PS X st tNever:=fun _ _ _ _ _ _ h=>h.elim
end
abbrev TG:=V→St→Hp→(St→Hp→Prop)→Prop
abbrev TGs:=List V→St→Hp→(St→Hp→Prop)→Prop
def PG (X:Cx) (target:Expr) (t:TG):Prop :=
  ∀ (pins:List (Addr × Obj)) (s:Shared) (σ:St) (H:Hp) (v:V) (u:Value) (Q:St→Hp→Prop),Inv X pins σ H s→RelV v u→t v σ H Q →
    wpAny (model X.prog X.w) X.A (assign target X.env u) (fun _ s'=>∃ σ' H',Inv X pins σ' H' s'∧Q σ' H') X.xe s
def PGs (X:Cx) (ts:List Expr) (t:TGs):Prop :=
  ∀ (pins:List (Addr × Obj)) (s:Shared) (σ:St) (H:Hp) (vs:List V) (us:List Value) (Q:St→Hp→Prop),Inv X pins σ H s→Vals vs us→t vs σ H Q →
    wpAny (model X.prog X.w) X.A (assignInOrder ((assignEach ts X.env).map (·.2)) us) (fun _ s'=>∃ σ' H',Inv X pins σ' H' s'∧Q σ' H') X.xe s
section
variable {X:Cx}{pos:Pos}
def gName (i:Nat):TG:=fun v σ H Q=>Q (σ.set i (some v)) H
theorem pg_name {i:Nat}{x:Str}(hN:X.N.Nodup)(hi:X.N[i]?=some x)(hx:Loc X.env.scope x)(hf:X.fn x=true∨X.env.scope.names.lookup x=some .local:=by first | exact .inl rfl | exact .inr rfl | assumption):PG X (.Name x pos) (gName i):=by
  intro pins s σ H v u Q I r h
  exact wpAny_assign_Name (store_ok I hN hi hx r (fun s' I'=>⟨_,H,I',h⟩) hf)
def gNil:TGs:=fun vs σ H Q=>vs=[]∧Q σ H
def gCons (t:TG)(u:TGs):TGs:=fun vs σ H Q=>∃ v r,vs=v::r∧t v σ H fun σ' H'=>u r σ' H' Q
theorem pgs_nil:PGs X [] gNil:=by
  intro pins s σ H vs us Q I r h
  obtain ⟨e,h⟩:=h
  subst e
  cases r
  exact assignInOrder_nil ⟨σ,H,I,h⟩
theorem pgs_cons {e:Expr}{es:List Expr}{t:TG}{u:TGs}(h1:PG X e t)(h2:PGs X es u)
    (hs:(assignEach (e::es) X.env).map (·.2)=assign e X.env::(assignEach es X.env).map (·.2):=by rfl):PGs X (e::es) (gCons t u):=by
  intro pins s σ H vs us Q I r h
  obtain ⟨v,vr,e1,h⟩:=h
  subst e1
  cases r with
  | cons r rr =>
    rw [hs]
    refine assignInOrder_cons (thn (h1 pins s σ H _ _ _ I r h) fun _ s1 ⟨σ1,H1,I1,q1⟩=>?_)
    exact h2 pins s1 σ1 H1 _ _ Q I1 rr q1
def gTup (K:PySem.W.Frag)(n:Nat)(t:TGs):TG:=fun v σ H Q=>∃ a xs,v=.ref a∧SqT K H a xs∧xs.length=n∧t xs σ H Q
theorem pg_tup {es:List Expr}{k:Nat}{t:TGs}{n:Nat}(hc:X.calm=true)(h:PGs X es t)
    (hn:(assignEach es X.env).length=n:=by rfl) (hst:(assignEach es X.env).findIdx? (·.1)=none:=by rfl):PG X (.Tuple es k pos) (gTup X.K n t):=by
  intro pins s σ H v u Q I r hw
  obtain ⟨a,xs,e1,hq,hl,hw⟩:=hw
  subst e1
  cases r
  obtain ⟨its,rv,ht,hz⟩:=I.tuple hq
  refine assign_Tuple_tuple (I.ok.hd hc) ht (by simp [hn,← hl,rv.length]) hst fun h' hx=>?_
  have I1:Inv X pins σ H { s with heap:=h' }:=I.kept (t':=s.toks) fun b o e=>hx b o (Nat.ne_of_lt (Heap.lt_size e)) e
  exact h pins _ σ H xs _ Q I1 (by simpa using rv) hw
def tAsg (te:TE)(g:TG):TS:=fun D σ H=>te σ H fun x H1=>g x σ H1 D.nx
theorem ps_asg {tg e:Expr}{te:TE}{g:TG}(he:PE X e te)(hg:PG X tg g)(hs:swapsWithSole [tg] e pos.line X.env=pure false:=by rfl)(hw:swappedStores [tg] e X.env=pure none:=by rfl)
    (h1:(assignEach [tg] X.env).map (·.2)=[assign tg X.env]:=by rfl):PS X (.Assign [tg] e pos) (tAsg te g):=by
  intro pins s σ H D I h
  refine wpAny_Assign_stores (thn (he pins s σ H _ I h) fun v s1 ⟨x,H1,I1,r1,q1⟩=>?_) hs hw
  rw [h1]
  exact thn (hg pins s1 σ H1 x v _ I1 r1 q1) fun _ s2 q=>q
theorem ps_set {i:Nat}{x:Str}{e:Expr}{te:TE}{pos':Pos}(hN:X.N.Nodup)(hi:X.N[i]?=some x)(hx:Loc X.env.scope x)(he:PE X e te)(hs:swapsWith e (some (.Name x pos')) pos.line X.env=pure false:=by rfl)(hf:X.fn x=true∨X.env.scope.names.lookup x=some .local:=by first | exact .inl rfl | exact .inr rfl | assumption) :
    PS X (.Assign [.Name x pos'] e pos) (tAsg te (gName i)):=by
  intro pins s σ H D I h
  refine wpAny_Assign_Name (thn (he pins s σ H _ I h) fun v s1 ⟨y,H1,I1,r1,q1⟩=>?_) hs
  exact store_ok I1 hN hi hx r1 (fun s2 I2=>⟨_,H1,I2,q1⟩) hf
end
section
variable {X:Cx}{pos:Pos}
end
structure It where
  go:Nat→Hp→Prop
  yld:Nat→Hp→V→Hp→Prop
  stop:Nat→Hp→Prop
def FpOk (X:Cx)(pins:List (Addr × Obj))(H:Hp)(b:Addr):Prop :=
  H b=none∧b≠X.env.locals∧b∉X.fs∧(b∈X.ex∨X.s₀.heap.objs.size≤b)∧(∀ x c,X.env.cells.lookup x=some c→c≠b)∧∀ p∈X.pn++pins,p.1≠b
theorem Inv.fpOk {X:Cx}{pins:List (Addr × Obj)}{σ:St}{H H':Hp}{s:Shared}{b:Addr}(I:Inv X pins σ H s)(hb:s.heap.objs.size≤b)(hn:H' b=none):FpOk X pins H' b:=by
  refine ⟨hn,Nat.ne_of_gt (Nat.lt_of_lt_of_le I.lt hb),I.nofs hb,.inr (Nat.le_trans I.sz hb),fun x c e z=>?_,fun p hp z=>?_⟩
  · obtain ⟨v,q⟩:=I.cell x c e
    exact absurd (Nat.lt_of_lt_of_le q.lt (by rw [z];exact hb)) (Nat.lt_irrefl _)
  · exact absurd (Nat.lt_of_lt_of_le (Heap.lt_size (I.pin p hp).1) (by rw [z];exact hb)) (Nat.lt_irrefl _)
structure Turn (P:Program)(w:World)(K:PySem.W.Frag)(tg:Expr)(J:It)(fp:List Addr)(it:Addr)(tn:Nat→Heap→Prop):Prop where
  mem:it∈fp
  obj:∀ i h,tn i h→∀ b∈fp,∃ o,h.get? b=some o∧∀ v,o.data≠.cell v
  keep:∀ i h h',tn i h→(∀ b∈fp,∀ o,h.get? b=some o→h'.get? b=some o)→tn i h'
  item:∀ (X:Cx),X.prog=P→X.w=w→X.K=K→X.calm=true→∀ (i:Nat) (pins:List (Addr × Obj)) (s:Shared) (σ:St) (H:Hp) (E:Value→Shared→Prop),Inv X pins σ H s→(∀ b∈fp,FpOk X pins H b)→tn i s.heap→J.go i H →
    wpAny (model P w) X.A (pyNext (.ref it)) (fun r s1=>∃ u,r=some u ∧
      wpAny (model P w) X.A (letOwnedTupleGo tg (.ref it) u) (fun _ s2=>∃ x H',Inv X pins σ H' s2∧RelV x u∧J.yld i H x H'∧tn (i+1) s2.heap∧∀ b∈fp,H' b=none) E s1) E s
  done:∀ (X:Cx),X.prog=P→X.w=w→X.K=K→X.calm=true→∀ (i:Nat) (pins:List (Addr × Obj)) (s:Shared) (σ:St) (H:Hp) (E:Value→Shared→Prop),Inv X pins σ H s→(∀ b∈fp,FpOk X pins H b)→tn i s.heap→J.stop i H →
    wpAny (model P w) X.A (pyNext (.ref it)) (fun r s1=>r=none∧Inv X pins σ H s1) E s
  self:∀ (A:Around) (i:Nat) (s:Shared) (Q:Value→Shared→Prop) (E:Value→Shared→Prop),tn i s.heap→Q (.ref it) s→wpAny (model P w) A (pyIter (.ref it)) Q E s
abbrev TI:=St→Hp→(It→Hp→Prop)→Prop
def PIE (X:Cx)(pins:List (Addr × Obj))(σ:St)(tg:Expr)(R:It→Hp→Prop)(itv:Value)(s2:Shared):Prop :=
  ∃ (it:Addr) (fp:List Addr) (tn:Nat→Heap→Prop) (J:It) (H':Hp),itv=.ref it∧Inv X pins σ H' s2∧Turn X.prog X.w X.K tg J fp it tn∧tn 0 s2.heap∧(∀ b∈fp,FpOk X pins H' b)∧R J H'
def PI (X:Cx) (tg iter:Expr) (wi:TI):Prop :=
  ∀ (pins:List (Addr × Obj)) (s:Shared) (σ:St) (H:Hp) (R:It→Hp→Prop),Inv X pins σ H s→wi σ H R →
    wpAny (model X.prog X.w) X.A (eval iter X.env) (fun v s1=>wpAny (model X.prog X.w) X.A (pyIter v) (PIE X pins σ tg R) X.xe s1) X.xe s
theorem go_of {M:Model} {A:Around} {E:Value→Shared→Prop} {s:Shared} {tg:Expr} {it:Addr} {u:Value} {o:Obj} {n:String} {vs:Array Value} {Q:Unit→Shared→Prop} (ho:s.heap.get? it=some o) (hc:o.cls=.type n) (hd:o.data=.fields vs)
    (hn:["enumerate","zip","dict_itemiterator","dict_reverseitemiterator","odict_iterator","itertools.zip_longest","itertools.pairwise"].contains n=false) (hQ:Q () s):wpAny M A (letOwnedTupleGo tg (.ref it) u) Q E s:=by
  unfold letOwnedTupleGo
  cases tg <;> first
    | exact wpAny_pure hQ
    | (cases u<;>first
        | exact wpAny_pure hQ
        | (refine wpAny_bind (wpAny_load ho ?_)
           rw [hc,hd]
           show wpAny M A (if (["enumerate","zip","dict_itemiterator","dict_reverseitemiterator","odict_iterator","itertools.zip_longest","itertools.pairwise"].contains n&&vs[0]?==some (rawInt _))=true then _ else _) Q E s
           rw [if_neg (by intro h;rw [hn,Bool.false_and] at h;cases h)]
           exact wpAny_pure hQ))
def Itl (K:PySem.W.Frag)(a:Addr):It :=
  ⟨fun i H=>∃ xs x,SqL K H a xs∧xs[i]?=some x,fun i H x H'=>H'=H∧∀ xs,SqL K H a xs→xs[i]?=some x,fun i H=>∃ xs,SqL K H a xs∧xs.length≤i⟩
def Itr (lo:Int)(n:Nat):It:=⟨fun i _=>i<n,fun i H x H'=>H'=H∧x=.int (lo+i),fun i _=>n≤i⟩
theorem turn_list {P:Program}{w:World}{K:PySem.W.Frag}{tg:Expr}(a it:Addr):Turn P w K tg (Itl K a) [it] it (fun i h=>h.IsListIter it a i) where
  mem:=by simp
  obj:=fun i h st b hb=>by
    have e:b=it:=by simpa using hb
    subst e
    obtain ⟨o,e,c,d⟩:=st
    exact ⟨o,e,fun v z=>by rw [d] at z;cases z⟩
  keep:=fun i h h' st k=>st.at fun o e=>k it (by simp) o e
  item:=by
    intro X hP hw hK hc i pins s σ H E I hf st hg
    subst hP hw hK
    obtain ⟨xs,x,hq,hx⟩:=hg
    obtain ⟨its,rv,p,hz⟩:=I.list hq
    obtain ⟨u,hu,ru⟩:=rv.get hx
    obtain ⟨f0,f1,f2,f3,f4,f5⟩:=hf it (by simp)
    refine wpAny_pyNext_list_item st p.isList (x:=u) (by simpa using hu) fun h' st' sb=>?_
    have I1:Inv X pins σ H { s with heap:=h' }:=I.turned (t':=s.toks) (fun b o hb e=>(sb.2 b hb).trans e) f0 f1 f3 f4 f5
    obtain ⟨o,e,c,d⟩:=id st'
    exact ⟨u,rfl,go_of (s:={ s with heap:=h' }) e c d (by decide) ⟨x,H,I1,ru,⟨rfl,fun ys hy=>by rw [I.list_inj hy hq];exact hx⟩,st',fun b hb=>(hf b hb).1⟩⟩
  done:=by
    intro X hP hw hK hc i pins s σ H E I hf st hg
    subst hP hw hK
    obtain ⟨xs,hq,hx⟩:=hg
    obtain ⟨its,rv,p,hz⟩:=I.list hq
    obtain ⟨f0,f1,f2,f3,f4,f5⟩:=hf it (by simp)
    have hl:=rv.length
    exact wpAny_pyNext_list_end (I.ok.hd hc) st p.isList (by simp;omega) fun h' eb=>⟨rfl,I.turned (t':=s.toks) (fun b o hb e=>eb b o hb e) f0 f1 f3 f4 f5⟩
  self:=fun _ _ _ _ _ st h=>wpAny_pyIter_listiter st h
theorem turn_range {P:Program}{w:World}{K:PySem.W.Frag}{tg:Expr}(it:Addr)(lo:Int)(n:Nat):Turn P w K tg (Itr lo n) [it] it (fun i h=>IsRangeIter h it (lo+(i:Nat)*1) ((n:Int)-(i:Nat)) 1) where
  mem:=by simp
  obj := fun i h st b hb=>by
    have e:b=it:=by simpa using hb
    subst e
    exact ⟨_,st,fun v z=>by
      have z':Data.fields _=Data.cell v:=z
      cases z'⟩
  keep:=fun i h h' st k=>k it (by simp) _ st
  item:=by
    intro X hP hw hK hc i pins s σ H E I hf st hg
    subst hP hw hK
    obtain ⟨f0,f1,f2,f3,f4,f5⟩:=hf it (by simp)
    have W:=Walks.range (prog:=X.prog) (w:=X.w) (I.ok.hd hc) it lo 1 n
    refine W.item i s _ _ hg st fun v h' tk hv st' kk=>?_
    obtain ⟨t,rfl⟩:=hv
    have I1:Inv X pins σ H { s with heap:=h',toks:=tk }:=I.turned (fun b o hb e=>kk b o (by simpa using hb) e) f0 f1 f3 f4 f5
    refine ⟨_,rfl,go_of (s:={ s with heap:=h',toks:=tk }) (n:="range_iterator") st' rfl rfl (by decide) ⟨.int (lo+i),H,I1,⟨t,?_⟩,⟨rfl,rfl⟩,st',fun b hb=>(hf b hb).1⟩⟩
    rw [Int.mul_one]
  done:=by
    intro X hP hw hK hc i pins s σ H E I hf st hg
    subst hP hw hK
    obtain ⟨f0,f1,f2,f3,f4,f5⟩:=hf it (by simp)
    exact wpAny_pyNext_range_end (I.ok.hd hc) st (by have:n≤i:=hg;omega) fun h' eb=>⟨rfl,I.turned (t':=s.toks) (fun b o hb e=>eb b o hb e) f0 f1 f3 f4 f5⟩
  self:=fun _ _ _ _ _ st h=>wpAny_pyIter_rangeiter st h
end L2
namespace L2
open PySem PySem.Spec PyProof.Rows
section
variable {X:Cx}{tg:Expr}
def iList (K:PySem.W.Frag)(tl:TE):TI:=fun σ H R=>tl σ H fun x H1=>∃ a,x=.ref a∧(∃ xs,SqL K H1 a xs)∧R (Itl K a) H1
theorem pi_list {l:Expr}{tl:TE}(hl:PE X l tl):PI X tg l (iList X.K tl):=by
  intro pins s σ H R I h
  refine thn (hl pins s σ H _ I h) fun v s1 ⟨x,H1,I1,r1,q1⟩=>?_
  obtain ⟨a,e,⟨xs,hq⟩,q⟩:=q1
  subst e
  cases r1
  obtain ⟨its,rv,p,hz⟩:=I1.list hq
  refine wpAny_pyIter_list p.isList ?_
  refine ⟨s1.heap.objs.size,[s1.heap.objs.size],_,_,H1,rfl,I1.kept (t':=s1.toks) fun b o e=>Heap.get?_push_of_some _ e,turn_list a _,⟨_,Heap.get?_push_size _ rfl,rfl,rfl⟩,fun b hb=>?_,q⟩
  have e:b=s1.heap.objs.size:=by simpa using hb
  subst e
  exact I1.fpOk (Nat.le_refl _) (I1.hok.fresh (Nat.le_refl _))
theorem range_it {pins:List (Addr × Obj)}{σ:St}{H:Hp}{s:Shared}{R:It→Hp→Prop}{E:Value→Shared→Prop}{lo hi:Int}{t u v:Tok}{tk:Nat}(I:Inv X pins σ H s)(h1:-(2^62)≤lo)(h2:lo<2^62)(h3:-(2^62)≤hi)(h4:hi<2^62)
    (q:R (Itr lo (hi-lo).toNat) H):wpAny (model X.prog X.w) X.A (pyIter (.ref s.heap.objs.size)) (PIE X pins σ tg R) E { s with heap:=s.heap.push { cls:=.type "range",data:=.fields #[.int lo t,.int hi u,.int 1 v] },toks:=tk }:=by
  refine wpAny_pyIter_range (IsRange.new ..) (small_one h1 h2 h3 h4) ?_
  have I1:Inv X pins σ H { s with heap:=s.heap.push { cls:=.type "range",data:=.fields #[.int lo t,.int hi u,.int 1 v] },toks:=tk }:=I.kept fun b o e=>Heap.get?_push_of_some _ e
  refine ⟨(s.heap.push { cls:=.type "range",data:=.fields #[.int lo t,.int hi u,.int 1 v] }).objs.size,[(s.heap.push { cls:=.type "range",data:=.fields #[.int lo t,.int hi u,.int 1 v] }).objs.size],_,_,H,rfl,
    I1.kept (t':=tk) fun b o e=>Heap.get?_push_of_some _ e,turn_range _ lo (hi-lo).toNat,?_,fun b hb=>?_,q⟩
  · have e1:lo+((0:Nat):Int)*1=lo:=by simp
    have e2:(((hi-lo).toNat:Nat):Int)-((0:Nat):Int)=Builtin.Range.rangeSize lo hi 1:=by rw [rangeSize_one];split<;>omega
    show IsRangeIter _ _ (lo+((0:Nat):Int)*1) ((((hi-lo).toNat:Nat):Int)-((0:Nat):Int)) 1
    rw [e1,e2]
    exact Heap.get?_push_size _ rfl
  · have e:b=(s.heap.push { cls:=.type "range",data:=.fields #[.int lo t,.int hi u,.int 1 v] }).objs.size:=by simpa using hb
    subst e
    exact I1.fpOk (Nat.le_refl _) (I1.hok.fresh (Nat.le_refl _))
def iRng1 (ta:TA):TI:=fun σ H R=>ta σ H fun vs H1=>∃ j:Int,vs=[.int j]∧-(2^62)≤j∧j<2^62∧R (Itr 0 j.toNat) H1
theorem pi_range1 {a:Expr}{ta:TA}{p pos:Pos}(hg:Gl X "range")(hm:X.mg "range"=none)(ha:PA X [a] ta)(hs:starEach [a] X.env=[(false,eval a X.env)]:=by rfl):PI X tg (.Call (.Name "range" p) [a] [] pos) (iRng1 ta):=by
  intro pins s σ H R I h
  refine Call_ (ld_blt I hg hm boot_range (PyProof.Rows.callWith_type1 (thn (ha pos pins s σ H _ I h) fun us s1 ⟨vs,H1,I1,r1,q1⟩=>?_) hs rfl))
  obtain ⟨j,e,q1,q2,q⟩:=q1
  subst e
  cases r1 with
  | cons r rr =>
    cases rr
    obtain ⟨t,rfl⟩:=r
    exact call_range_1 (range_it I1 (by omega) (by omega) q1 q2 (by simpa using q))
def tFor (wi:TI)(g:TG)(tb:TS):TS:=fun D σ H=>wi σ H fun J H1=>∃ W:Nat→Nat→St→Hp→Prop,(∃ m,W 0 m σ H1)∧∀ i m σ H,W i m σ H →
  (J.stop i H∧D.nx σ H)∨(J.go i H∧∃ N:St→Hp→Prop,(∀ σ' H',N σ' H'→∃ m',m'<m∧W (i+1) m' σ' H')∧∀ x H',J.yld i H x H'→g x σ H' fun σ2 H2=>tb { D with nx:=N,ct:=N,bk:=D.nx } σ2 H2)
def pinsAt (fp:List Addr)(h:Heap):List (Addr × Obj):=fp.filterMap fun b=>(h.get? b).map fun o=>(b,o)
theorem mem_pinsAt {fp:List Addr}{h:Heap}{b:Addr}{o:Obj}(hb:b∈fp)(e:h.get? b=some o):(b,o)∈pinsAt fp h:=List.mem_filterMap.mpr ⟨b,hb,by rw [e];rfl⟩
theorem of_pinsAt {fp:List Addr}{h:Heap}{p:Addr × Obj}(hp:p∈pinsAt fp h):p.1∈fp∧h.get? p.1=some p.2:=by
  obtain ⟨b,hb,e⟩:=List.mem_filterMap.mp hp
  cases q:h.get? b with
  | none=>rw [q] at e;cases e
  | some o =>
    rw [q] at e
    have e':(b,o)=p:=Option.some.inj e
    subst e'
    exact ⟨hb,q⟩
theorem Inv.pinned {pins:List (Addr × Obj)}{σ:St}{H:Hp}{s:Shared}{fp:List Addr}(I:Inv X pins σ H s)(hf:∀ b∈fp,FpOk X pins H b)(ho:∀ b∈fp,∃ o,s.heap.get? b=some o∧∀ v,o.data≠.cell v):Inv X (pins++pinsAt fp s.heap) σ H s :=
  I.pins_of fun p hp=>(List.mem_append.mp hp).elim (fun z=>I.pin p (List.mem_append_right _ z)) fun z=>by
    obtain ⟨hb,e⟩:=of_pinsAt z
    obtain ⟨f0,f1,f2,_⟩:=hf p.1 hb
    obtain ⟨o,e',d⟩:=ho p.1 hb
    rw [e] at e';cases e'
    exact ⟨e,f0,f1,f2,d⟩
theorem Inv.unpinned {pins pl:List (Addr × Obj)}{σ:St}{H:Hp}{s:Shared}(I:Inv X (pins++pl) σ H s):Inv X pins σ H s:=I.pins_of fun p hp=>I.pin p (List.mem_append_right _ (List.mem_append_left _ hp))
theorem ps_for {iter:Expr}{body:List Stmt}{wi:TI}{g:TG}{tb:TS}{pos:Pos}(hp:PassesOwn (model X.prog X.w) X.A X.env X.xe)(hc:X.calm=true)(hi:PI X tg iter wi)(hg:PG X tg g)(hb:PSs X body tb)
    (hs:∀ x,foldedSetIterable iter X.env x=pure x:=by intro _;rfl):PS X (.For tg iter body [] pos) (tFor wi g tb):=by
  intro pins s σ H D I h
  refine wpAny_For (thn (hi pins s σ H _ I h) fun v s1 h1=>thn h1 fun itv s2 h2=>?_) hs
  obtain ⟨it,fp,tn,J,H2,e,I2,T,st2,f2,W,⟨m0,w0⟩,turn⟩:=h2
  subst e
  have stat:∀ {H':Hp},(∀ b∈fp,H' b=none)→∀ b∈fp,FpOk X pins H' b:=fun hn b hb=>⟨hn b hb,(f2 b hb).2⟩
  refine codeAny_forLoop_any (fun n s'=>∃ i σ' H',Inv X pins σ' H' s'∧tn i s'.heap∧(∀ b∈fp,H' b=none)∧W i n σ' H') ?_ m0 ⟨0,σ,H2,I2,st2,fun b hb=>(f2 b hb).1,w0⟩
  rintro n s3 ⟨i,σ3,H3,I3,st3,fr3,w3⟩
  rcases turn i n σ3 H3 w3 with ⟨stop,qn⟩ | ⟨go,N,hN,step⟩
  · refine wpAny_passesOwn hp (thn (T.done X rfl rfl rfl hc i pins s3 σ3 H3 X.xe I3 (stat fr3) st3 stop) fun r s4 ⟨hr,I4⟩=>?_)
    subst hr
    exact wpAny_execs_nil ⟨σ3,H3,I4,qn⟩
  · refine wpAny_passesOwn hp (thn (T.item X rfl rfl rfl hc i pins s3 σ3 H3 X.xe I3 (stat fr3) st3 go) fun r s4 ⟨u,hr,h4⟩=>?_)
    subst hr
    refine wpAny_passesOwn hp (thn h4 fun _ s5 ⟨x,H5,I5,r5,y5,st5,fr5⟩=>?_)
    have I5':=I5.pinned (stat fr5) (T.obj _ _ st5)
    refine wpAny_passesOwn hp (thn (hg _ s5 σ3 H5 x u _ I5' r5 (step x H5 y5)) fun _ s6 ⟨σ6,H6,I6,q6⟩=>?_)
    refine wpAny_passesOwn hp (thn (hb _ s6 σ6 H6 _ I6 q6) fun f s7 q7=>?_)
    have again:∀ {σ7:St} {H7:Hp},Inv X (pins++pinsAt fp s5.heap) σ7 H7 s7→N σ7 H7→∃ m,m<n∧∃ i σ' H',Inv X pins σ' H' s7∧tn i s7.heap∧(∀ b∈fp,H' b=none)∧W i m σ' H':=fun {σ7 H7} I7 n7=>by
      obtain ⟨m',hm,w7⟩:=hN σ7 H7 n7
      refine ⟨m',hm,i+1,σ7,H7,I7.unpinned,T.keep _ _ _ st5 fun b hb o e=>(I7.pin (b,o) (List.mem_append_right _ (List.mem_append_right _ (mem_pinsAt hb e)))).1,fun b hb=>?_,w7⟩
      obtain ⟨o,e,d⟩:=T.obj _ _ st5 b hb
      exact (I7.pin (b,o) (List.mem_append_right _ (List.mem_append_right _ (mem_pinsAt hb e)))).2.1
    cases f with
    | next=>obtain ⟨σ7,H7,I7,n7⟩:=q7;exact again I7 n7
    | cont=>obtain ⟨σ7,H7,I7,n7⟩:=q7;exact again I7 n7
    | brk=>obtain ⟨σ7,H7,I7,q7⟩:=q7;exact ⟨σ7,H7,I7.unpinned,q7⟩
    | ret v=>obtain ⟨x7,σ7,H7,I7,r7,q7⟩:=q7;exact ⟨x7,σ7,H7,I7.unpinned,r7,q7⟩
end
theorem for_list {K:PySem.W.Frag}{a:Addr}{xs:List V}{g:TG}{tb:TS}{D:Ends}{σ:St}{H:Hp}(Pv:Nat→St→Hp→Prop)(h0:Pv 0 σ H)(hl:∀ i σ H,i≤xs.length→Pv i σ H→SqL K H a xs)
    (hs:∀ i x σ H,xs[i]?=some x→Pv i σ H→g x σ H fun σ2 H2=>tb { D with nx:=Pv (i+1),ct:=Pv (i+1),bk:=D.nx } σ2 H2) (hd:∀ σ H,Pv xs.length σ H→D.nx σ H) :
    ∃ W:Nat→Nat→St→Hp→Prop,(∃ m,W 0 m σ H)∧∀ i m σ H,W i m σ H →
      ((Itl K a).stop i H∧D.nx σ H)∨((Itl K a).go i H∧∃ N:St→Hp→Prop,(∀ σ' H',N σ' H'→∃ m',m'<m∧W (i+1) m' σ' H')∧∀ x H',(Itl K a).yld i H x H'→g x σ H' fun σ2 H2=>tb { D with nx:=N,ct:=N,bk:=D.nx } σ2 H2):=by
  refine ⟨fun i m σ H=>m=xs.length-i∧i≤xs.length∧Pv i σ H,⟨xs.length,by simp,Nat.zero_le _,h0⟩,?_⟩
  rintro i m σ H ⟨rfl,hi,p⟩
  have q:=hl i σ H hi p
  by_cases hlt:i<xs.length
  · refine .inr ⟨⟨xs,xs[i],q,by simp [hlt]⟩,Pv (i+1),fun σ' H' p'=>⟨xs.length-(i+1),by omega,rfl,hlt,p'⟩,fun x H' y=>?_⟩
    obtain ⟨e,y⟩:=y
    subst e
    exact hs i x σ _ (y xs q) p
  · have e:i=xs.length:=by omega
    subst e
    exact .inl ⟨⟨xs,q,Nat.le_refl _⟩,hd σ H p⟩
theorem for_range {lo:Int}{n:Nat}{g:TG}{tb:TS}{D:Ends}{σ:St}{H:Hp}(Pv:Nat→St→Hp→Prop)(h0:Pv 0 σ H)
    (hs:∀ i σ H,i<n→Pv i σ H→g (.int (lo+i)) σ H fun σ2 H2=>tb { D with nx:=Pv (i+1),ct:=Pv (i+1),bk:=D.nx } σ2 H2) (hd:∀ σ H,Pv n σ H→D.nx σ H) :
    ∃ W:Nat→Nat→St→Hp→Prop,(∃ m,W 0 m σ H)∧∀ i m σ H,W i m σ H →
      ((Itr lo n).stop i H∧D.nx σ H)∨((Itr lo n).go i H∧∃ N:St→Hp→Prop,(∀ σ' H',N σ' H'→∃ m',m'<m∧W (i+1) m' σ' H')∧∀ x H',(Itr lo n).yld i H x H'→g x σ H' fun σ2 H2=>tb { D with nx:=N,ct:=N,bk:=D.nx } σ2 H2):=by
  refine ⟨fun i m σ H=>m=n-i∧i≤n∧Pv i σ H,⟨n,by simp,Nat.zero_le _,h0⟩,?_⟩
  rintro i m σ H ⟨rfl,hi,p⟩
  by_cases hlt:i<n
  · refine .inr ⟨hlt,Pv (i+1),fun σ' H' p'=>⟨n-(i+1),by omega,rfl,hlt,p'⟩,fun x H' y=>?_⟩
    obtain ⟨e,y⟩:=y
    subst e y
    exact hs i σ _ hlt p
  · have e:i=n:=by omega
    subst e
    exact .inl ⟨Nat.le_refl _,hd σ H p⟩
end L2
namespace L2
open PySem PySem.Spec PyProof.Rows
abbrev R2:=V→V→Hp→VK→Prop
def OpR (X:Cx) (f:Value→Value→Sem Value) (r:R2):Prop :=
  ∀ (pins:List (Addr × Obj)) (s:Shared) (σ:St) (H:Hp) (x y:V) (v u:Value) (Q:VK),Inv X pins σ H s→RelV x v→RelV y u→r x y H Q →
    wpAny (model X.prog X.w) X.A (f v u) (EP X pins σ Q) X.xe s
def UnR (X:Cx) (f:Value→Sem Value) (r:V→Hp→VK→Prop):Prop :=
  ∀ (pins:List (Addr × Obj)) (s:Shared) (σ:St) (H:Hp) (x:V) (v:Value) (Q:VK),Inv X pins σ H s→RelV x v→r x H Q →
    wpAny (model X.prog X.w) X.A (f v) (EP X pins σ Q) X.xe s
def CallR (X:Cx) (f:Value) (r:List V→Hp→VK→Prop):Prop :=
  ∀ (pins:List (Addr × Obj)) (s:Shared) (σ:St) (H:Hp) (xs:List V) (us:List Value) (Q:VK),Inv X pins σ H s→Vals xs us→r xs H Q →
    wpAny (model X.prog X.w) X.A (call f us) (EP X pins σ Q) X.xe s
def tOp (r:R2)(ta tb:TE):TE:=fun σ H Q=>ta σ H fun x H1=>tb σ H1 fun y H2=>r x y H2 Q
def tUn (r:V→Hp→VK→Prop)(ta:TE):TE:=fun σ H Q=>ta σ H fun x H1=>r x H1 Q
def rI (C:Int→Int→Prop)(g:Int→Int→V):R2:=fun x y H Q=>∃ i j,x=.int i∧y=.int j∧C i j∧Q (g i j) H
def rI0 (g:Int→Int→V):R2:=fun x y H Q=>∃ i j,x=.int i∧y=.int j∧Q (g i j) H
def rU (g:Int→V):V→Hp→VK→Prop:=fun x H Q=>∃ i,x=.int i∧Q (g i) H
section
variable {X:Cx}{a b c:Expr}{ta tb tc:TE}{pos:Pos}
theorem binT (ha:PE X a ta)(hb:PE X b tb){pins:List (Addr × Obj)}{s:Shared}{σ:St}{H:Hp}{R:V→V→Hp→Prop}(I:Inv X pins σ H s)
    (h:ta σ H fun x H1=>tb σ H1 fun y H2=>R x y H2) {Q:Value→Shared→Prop} {f:Value→Value→Sem Value}
    (hf:∀ v u s2 x y H2,Inv X pins σ H2 s2→RelV x v→RelV y u→R x y H2→wpAny (model X.prog X.w) X.A (f v u) Q X.xe s2) :
    wpAny (model X.prog X.w) X.A (eval a X.env) (fun v s₁=>wpAny (model X.prog X.w) X.A (eval b X.env) (fun u s₂=>wpAny (model X.prog X.w) X.A (f v u) Q X.xe s₂) X.xe s₁) X.xe s:=by
  refine thn (ha pins s σ H _ I h) fun v s1 ⟨x,H1,I1,r1,q1⟩=>?_
  refine thn (hb pins s1 σ H1 _ I1 q1) fun u s2 ⟨y,H2,I2,r2,q2⟩=>?_
  exact hf v u s2 x y H2 I2 r1 r2 q2
theorem pe_op {op:Operator}{r:R2}(ho:OpR X (binaryOp op) r)(ha:PE X a ta)(hb:PE X b tb):PE X (.BinOp a op b pos) (tOp r ta tb):=by
  intro pins s σ H Q I h
  exact wpAny_BinOp (binT ha hb I h fun v u s2 x y H2 I2 rx ry q=>ho pins s2 σ H2 x y v u Q I2 rx ry q)
theorem pe_un {op:UnaryOp}{r:V→Hp→VK→Prop}(ho:UnR X (unaryOp op) r)(ha:PE X a ta):PE X (.UnaryOp op a pos) (tUn r ta):=by
  intro pins s σ H Q I h
  exact UnaryOp_ (thn (ha pins s σ H _ I h) fun v s1 ⟨x,H1,I1,r1,q1⟩=>ho pins s1 σ H1 x v Q I1 r1 q1)
theorem opI {f:Value→Value→Sem Value}{C:Int→Int→Prop}{g:Int→Int→Int}
    (rule:∀ (i j:Int) (t u:Tok) (s:Shared) (Q:Value→Shared→Prop) (E:Value→Shared→Prop),C i j→Q (.int (g i j) s.toks) { s with toks:=s.toks+1 }→wpAny (model X.prog X.w) X.A (f (.int i t) (.int j u)) Q E s) :
    OpR X f (rI C fun i j=>.int (g i j)):=by
  intro pins s σ H x y v u Q I rx ry h
  obtain ⟨i,j,rfl,rfl,hc,q⟩:=h
  obtain ⟨t,rfl⟩:=rx
  obtain ⟨t',rfl⟩:=ry
  exact rule i j t t' s _ _ hc ⟨.int (g i j),H,I.tok _,⟨_,rfl⟩,q⟩
theorem opI0 {f:Value→Value→Sem Value}{g:Int→Int→Int}
    (rule:∀ (i j:Int) (t u:Tok) (s:Shared) (Q:Value→Shared→Prop) (E:Value→Shared→Prop),Q (.int (g i j) s.toks) { s with toks:=s.toks+1 }→wpAny (model X.prog X.w) X.A (f (.int i t) (.int j u)) Q E s) :
    OpR X f (rI0 fun i j=>.int (g i j)):=by
  intro pins s σ H x y v u Q I rx ry h
  obtain ⟨i,j,rfl,rfl,q⟩:=h
  obtain ⟨t,rfl⟩:=rx
  obtain ⟨t',rfl⟩:=ry
  exact rule i j t t' s _ _ ⟨.int (g i j),H,I.tok _,⟨_,rfl⟩,q⟩
theorem opB0 {f:Value→Value→Sem Value}{g:Int→Int→Bool}
    (rule:∀ (i j:Int) (t u:Tok) (s:Shared) (Q:Value→Shared→Prop) (E:Value→Shared→Prop),Q (.bool (g i j)) s→wpAny (model X.prog X.w) X.A (f (.int i t) (.int j u)) Q E s) :
    OpR X f (rI0 fun i j=>.bl (g i j)):=by
  intro pins s σ H x y v u Q I rx ry h
  obtain ⟨i,j,rfl,rfl,q⟩:=h
  obtain ⟨t,rfl⟩:=rx
  obtain ⟨t',rfl⟩:=ry
  exact rule i j t t' s _ _ ⟨.bl (g i j),H,I,rfl,q⟩
def CDiv (i j:Int):Prop:=0<j∧j<1073741824
def CPow (i j:Int):Prop:=0≤j∧j≤1000000∧i.natAbs<2^64
def CMul (i j:Int):Prop:=(-(2^64)<i∧i<2^64)∨(-(2^64)<j∧j<2^64)
theorem CMul.ok {i j:Int}(h:CMul i j):IntMulOk i j:=by
  rcases h with ⟨h1,h2⟩ | ⟨h1,h2⟩
  · exact .of_left (intBits_le_64 h1 h2)
  · exact .of_right (intBits_le_64 h1 h2)
theorem op_add:OpR X (binaryOp .Add) (rI0 fun i j=>.int (i+j)):=opI0 fun _ _ _ _ _ _ _ q=>add_int q
theorem op_sub:OpR X (binaryOp .Sub) (rI0 fun i j=>.int (i-j)):=opI0 fun _ _ _ _ _ _ _ q=>sub_int q
theorem op_mul:OpR X (binaryOp .Mult) (rI CMul fun i j=>.int (i*j)):=opI fun _ _ _ _ _ _ _ hc q=>mul_int q hc.ok
theorem op_fdiv:OpR X (binaryOp .FloorDiv) (rI CDiv fun i j=>.int (i/j)):=opI fun i j _ _ _ _ _ hc q=>by
  have h1:(0:Int)<j:=hc.1
  have h2:j<1073741824:=hc.2
  exact floordiv_int (by omega) (by rw [Int.fdiv_eq_ediv_of_nonneg i (by omega)];exact q) (.inl (PyProof.noPylong_small (by omega)))
theorem op_mod:OpR X (binaryOp .Mod) (rI (fun _ j=>0<j) fun i j=>.int (i%j)):=opI fun i j _ _ _ _ _ hc q=>by
  have h1:(0:Int)<j:=hc
  exact mod_int' (by omega) (by rw [Int.fmod_eq_emod_of_nonneg i (by omega)];exact q)
theorem op_pow:OpR X (binaryOp .Pow) (rI CPow fun i j=>.int (i^j.toNat)):=opI fun _ _ _ _ _ _ _ hc q=>pow_int_small hc.1 hc.2.1 hc.2.2 q
theorem unI {f:Value→Sem Value}{g:Int→Int}
    (rule:∀ (i:Int) (t:Tok) (s:Shared) (Q:Value→Shared→Prop) (E:Value→Shared→Prop),Q (.int (g i) s.toks) { s with toks:=s.toks+1 }→wpAny (model X.prog X.w) X.A (f (.int i t)) Q E s) :
    UnR X f (rU fun i=>.int (g i)):=by
  intro pins s σ H x v Q I rx h
  obtain ⟨i,rfl,q⟩:=h
  obtain ⟨t,rfl⟩:=rx
  exact rule i t s _ _ ⟨.int (g i),H,I.tok _,⟨_,rfl⟩,q⟩
theorem un_neg:UnR X (unaryOp .USub) (rU fun i=>.int (-i)):=unI fun _ _ _ _ _ q=>neg_int q
end
def scal:V→V→Bool
  | .non,.non=>true | .non,.int _=>true | .int _,.non=>true | .non,.bl _=>true | .bl _,.non=>true | .non,.str _=>true | .str _,.non=>true
  | .int _,.int _=>true | .bl _,.bl _=>true | .str _,.str _=>true | .byt _,.byt _=>true
  | .int _,.str _=>true | .str _,.int _=>true | .bl _,.str _=>true | .str _,.bl _=>true
  | _,_=>false
def rEq:R2:=fun x y H Q=>scal x y=true∧Q (.bl (decide (x=y))) H
def rNe:R2:=fun x y H Q=>scal x y=true∧Q (.bl (!decide (x=y))) H
theorem dec_int {i j:Int}:decide (V.int i=V.int j)=(i==j):=by
  rw [Bool.eq_iff_iff]
  simp
theorem dec_bl {i j:Bool}:decide (V.bl i=V.bl j)=(i==j):=by
  rw [Bool.eq_iff_iff]
  simp
theorem dec_str {i j:Str}:decide (V.str i=V.str j)=(i==j):=by
  rw [Bool.eq_iff_iff]
  simp
theorem dec_byt {i j:Array UInt8}:decide (V.byt i=V.byt j)=(i.toList==j.toList):=by
  rw [Bool.eq_iff_iff]
  cases i
  cases j
  simp
section
variable {X:Cx}{a b c:Expr}{ta tb tc:TE}{pos:Pos}
theorem fin_bl {pins:List (Addr × Obj)}{σ:St}{H:Hp}{s:Shared}{Q:VK}{k k':Bool}(I:Inv X pins σ H s)(q:Q (.bl k) H)(e:k=k'):EP X pins σ Q (.bool k') s:=by
  subst e
  exact ⟨.bl k,H,I,rfl,q⟩
theorem op_eq:OpR X (compareOp .Eq) rEq:=by
  intro pins s σ H x y v u Q I rx ry h
  obtain ⟨hs,q⟩:=h
  cases x with
  | non =>
    cases rx
    cases y with
    | non=>cases ry;exact PySem.EqNone.eq_none_none (fin_bl I q (by simp))
    | bl j=>cases ry;exact PySem.EqNone.eq_none_bool (fin_bl I q (by simp))
    | int j=>obtain ⟨t',rfl⟩:=ry;exact PySem.EqNone.eq_none_int (fin_bl I q (by simp))
    | str j=>obtain ⟨t',rfl⟩:=ry;exact PySem.EqNone.eq_none_str (fin_bl I q (by simp))
    | _=>exact absurd (show false=true from hs) Bool.false_ne_true
  | bl i =>
    cases rx
    cases y with
    | non=>cases ry;exact PySem.EqNone.eq_bool_none (fin_bl I q (by simp))
    | bl j=>cases ry;exact eq_bool (fin_bl I q dec_bl)
    | str j=>obtain ⟨t',rfl⟩:=ry;exact PySem.EqMixed.eq_bool_str (fin_bl I q (by simp))
    | _=>exact absurd (show false=true from hs) Bool.false_ne_true
  | int i =>
    obtain ⟨t,rfl⟩:=rx
    cases y with
    | non=>cases ry;exact PySem.EqNone.eq_int_none (fin_bl I q (by simp))
    | int j=>obtain ⟨t',rfl⟩:=ry;exact eq_int (fin_bl I q dec_int)
    | str j=>obtain ⟨t',rfl⟩:=ry;exact PySem.EqMixed.eq_int_str (fin_bl I q (by simp))
    | _=>exact absurd (show false=true from hs) Bool.false_ne_true
  | str i =>
    obtain ⟨t,rfl⟩:=rx
    cases y with
    | non=>cases ry;exact PySem.EqNone.eq_str_none (fin_bl I q (by simp))
    | bl j=>cases ry;exact PySem.EqMixed.eq_str_bool (fin_bl I q (by simp))
    | int j=>obtain ⟨t',rfl⟩:=ry;exact PySem.EqMixed.eq_str_int (fin_bl I q (by simp))
    | str j=>obtain ⟨t',rfl⟩:=ry;exact eq_str (fin_bl I q dec_str)
    | _=>exact absurd (show false=true from hs) Bool.false_ne_true
  | byt i =>
    obtain ⟨t,rfl⟩:=rx
    cases y with
    | byt j=>obtain ⟨t',rfl⟩:=ry;exact PySem.W.eq_bytes (fin_bl I q dec_byt)
    | _=>exact absurd (show false=true from hs) Bool.false_ne_true
  | _=>cases y<;>exact absurd (show false=true from hs) Bool.false_ne_true
theorem op_ne:OpR X (compareOp .NotEq) rNe:=by
  intro pins s σ H x y v u Q I rx ry h
  obtain ⟨hs,q⟩:=h
  cases x with
  | non =>
    cases rx
    cases y with
    | non=>cases ry;exact PySem.EqNone.ne_none_none (fin_bl I q (by simp))
    | bl j=>cases ry;exact PySem.EqNone.ne_none_bool (fin_bl I q (by simp))
    | int j=>obtain ⟨t',rfl⟩:=ry;exact PySem.EqNone.ne_none_int (fin_bl I q (by simp))
    | str j=>obtain ⟨t',rfl⟩:=ry;exact PySem.EqNone.ne_none_str (fin_bl I q (by simp))
    | _=>exact absurd (show false=true from hs) Bool.false_ne_true
  | bl i =>
    cases rx
    cases y with
    | non=>cases ry;exact PySem.EqNone.ne_bool_none (fin_bl I q (by simp))
    | bl j=>cases ry;exact ne_bool (fin_bl I q (congrArg not dec_bl))
    | str j=>obtain ⟨t',rfl⟩:=ry;exact PySem.EqMixed.ne_bool_str (fin_bl I q (by simp))
    | _=>exact absurd (show false=true from hs) Bool.false_ne_true
  | int i =>
    obtain ⟨t,rfl⟩:=rx
    cases y with
    | non=>cases ry;exact PySem.EqNone.ne_int_none (fin_bl I q (by simp))
    | int j=>obtain ⟨t',rfl⟩:=ry;exact ne_int (fin_bl I q (congrArg not dec_int))
    | str j=>obtain ⟨t',rfl⟩:=ry;exact PySem.EqMixed.ne_int_str (fin_bl I q (by simp))
    | _=>exact absurd (show false=true from hs) Bool.false_ne_true
  | str i =>
    obtain ⟨t,rfl⟩:=rx
    cases y with
    | non=>cases ry;exact PySem.EqNone.ne_str_none (fin_bl I q (by simp))
    | bl j=>cases ry;exact PySem.EqMixed.ne_str_bool (fin_bl I q (by simp))
    | int j=>obtain ⟨t',rfl⟩:=ry;exact PySem.EqMixed.ne_str_int (fin_bl I q (by simp))
    | str j=>obtain ⟨t',rfl⟩:=ry;exact ne_str (fin_bl I q (congrArg not dec_str))
    | _=>exact absurd (show false=true from hs) Bool.false_ne_true
  | byt i =>
    obtain ⟨t,rfl⟩:=rx
    cases y with
    | byt j=>obtain ⟨t',rfl⟩:=ry;exact PySem.W.ne_bytes (fin_bl I q (congrArg not dec_byt))
    | _=>exact absurd (show false=true from hs) Bool.false_ne_true
  | _=>cases y<;>exact absurd (show false=true from hs) Bool.false_ne_true
theorem op_lt:OpR X (compareOp .Lt) (rI0 fun i j=>.bl (decide (i<j))):=opB0 fun _ _ _ _ _ _ _ q=>lt_int q
theorem op_le:OpR X (compareOp .LtE) (rI0 fun i j=>.bl (decide (i≤j))):=opB0 fun _ _ _ _ _ _ _ q=>le_int q
theorem op_in_str:OpR X (compareOp .In) (fun x y H Q=>∃ i j,x=.str i∧y=.str j∧Q (.bl (!(Builtin.Str.occurrences j i 0 j.length 1).isEmpty)) H):=by
  intro pins s σ H x y v u Q I rx ry h
  obtain ⟨i,j,rfl,rfl,q⟩:=h
  obtain ⟨t,rfl⟩:=rx
  obtain ⟨t',rfl⟩:=ry
  exact in_str (fin_bl I q rfl)
theorem nomark (b:Expr){op:CmpOp}(h:op≠.In:=by decide)(h2:op≠.NotIn:=by decide):behindInMarks op b=false:=by
  have e1:(op==CmpOp.In)=false:=by cases op<;>first | rfl | exact absurd rfl h
  have e2:(op==CmpOp.NotIn)=false:=by cases op<;>first | rfl | exact absurd rfl h2
  cases b<;>simp [behindInMarks,e1,e2]
theorem pe_cmpR {op:CmpOp}{r:R2}(ho:OpR X (compareOp op) r)(ha:PE X a ta)(hb:PE X b tb)(hm:behindInMarks op b=false):PE X (.Compare a [op] [b] pos) (tOp r ta tb):=by
  intro pins s σ H Q I h
  exact wpAny_Compare1 (binT ha hb I h fun v u s2 x y H2 I2 rx ry q=>ho pins s2 σ H2 x y v u Q I2 rx ry q) hm
def tTest (t:TE):TT:=fun σ H Q=>t σ H fun x H'=>∃ k,x=.bl k∧Q k H'
theorem pt_cmpR {op:CmpOp}{r:R2}(ho:OpR X (compareOp op) r)(ha:PE X a ta)(hb:PE X b tb)(hm:behindInMarks op b=false):PT X (.Compare a [op] [b] pos) (tTest (tOp r ta tb)):=by
  intro pins s σ H Q I h
  refine wpAny_isTrue_Compare1 (thn (ha pins s σ H _ I h) fun v s1 ⟨x,H1,I1,r1,q1⟩=>thn (hb pins s1 σ H1 _ I1 q1) fun u s2 ⟨y,H2,I2,r2,q2⟩ =>
    thn (ho pins s2 σ H2 x y v u _ I2 r1 r2 q2) fun c s3 ⟨z,H3,I3,r3,k,e,q3⟩=>?_) hm
  subst e
  cases r3
  exact wpAny_truthy_bool ⟨H3,I3,q3⟩
def tChain (r r':R2)(ta tb tc:TE):TE:=fun σ H Q=>ta σ H fun x H1=>tb σ H1 fun y H2=>r x y H2 fun z H3=>∃ k,z=.bl k ∧
  (if k=true then tc σ H3 fun w' H4=>r' y w' H4 Q else Q (.bl false) H3)
theorem pe_chain {op op':CmpOp}{r r':R2}(ho:OpR X (compareOp op) r)(ho':OpR X (compareOp op') r')(ha:PE X a ta)(hb:PE X b tb)(hc:PE X c tc)
    (hm:lastMarks [op,op'] [b,c]=false:=by with_unfolding_all rfl):PE X (.Compare a [op,op'] [b,c] pos) (tChain r r' ta tb tc):=by
  intro pins s σ H Q I h
  refine Compare_chain (thn (ha pins s σ H _ I h) fun v s1 ⟨x,H1,I1,r1,q1⟩=>chain_link (thn (hb pins s1 σ H1 _ I1 q1) fun u s2 ⟨y,H2,I2,r2,q2⟩ =>
    thn (ho pins s2 σ H2 x y v u _ I2 r1 r2 q2) fun d s3 ⟨z,H3,I3,r3,k,e,q3⟩=>?_)) hm
  subst e
  cases r3
  refine wpAny_truthy_bool ?_
  cases k with
  | false=>exact ite_ff ⟨.bl false,H3,I3,rfl,q3⟩
  | true=>exact ite_tt (chain_last (thn (hc pins s3 σ H3 _ I3 q3) fun w' s4 ⟨z',H4,I4,r4,q4⟩=>ho' pins s4 σ H4 y z' u w' Q I4 r2 r4 q4))
theorem pt_chain {op op':CmpOp}{r r':R2}(ho:OpR X (compareOp op) r)(ho':OpR X (compareOp op') r')(ha:PE X a ta)(hb:PE X b tb)(hc:PE X c tc)
    (hm:lastMarks [op,op'] [b,c]=false:=by with_unfolding_all rfl):PT X (.Compare a [op,op'] [b,c] pos) (tTest (tChain r r' ta tb tc)):=by
  intro pins s σ H Q I h
  refine isTrue_chain (thn (ha pins s σ H _ I h) fun v s1 ⟨x,H1,I1,r1,q1⟩=>test_link (thn (hb pins s1 σ H1 _ I1 q1) fun u s2 ⟨y,H2,I2,r2,q2⟩ =>
    thn (ho pins s2 σ H2 x y v u _ I2 r1 r2 q2) fun d s3 ⟨z,H3,I3,r3,k,e,q3⟩=>?_)) hm
  subst e
  cases r3
  refine wpAny_truthy_bool ?_
  cases k with
  | false =>
    obtain ⟨k',e',q'⟩:=q3
    cases e'
    exact ite_ff ⟨H3,I3,q'⟩
  | true =>
    refine ite_tt (test_last (thn (hc pins s3 σ H3 _ I3 q3) fun w' s4 ⟨z',H4,I4,r4,q4⟩=>thn (ho' pins s4 σ H4 y z' u w' _ I4 r2 r4 q4) fun d' s5 ⟨z2,H5,I5,r5,k2,e2,q5⟩=>?_))
    subst e2
    cases r5
    exact wpAny_truthy_bool ⟨H5,I5,q5⟩
theorem line63:(sizeLine:Nat)<2^63:=by rw [sizeLine_eq];decide
theorem op_add_str:OpR X (binaryOp .Add) (fun x y H Q=>∃ i j,x=.str i∧y=.str j∧i.length+j.length≤sizeLine∧Q (.str (i++j)) H):=by
  intro pins s σ H x y v u Q I rx ry h
  obtain ⟨i,j,rfl,rfl,hz,q⟩:=h
  obtain ⟨t,rfl⟩:=rx
  obtain ⟨t',rfl⟩:=ry
  exact add_str (fun t' tk=>⟨.str (i++j),H,I.tok _,⟨_,rfl⟩,q⟩) hz
theorem vals1 {x:V}{us:List Value}(r:Vals [x] us):∃ u,us=[u]∧RelV x u:=by
  cases r with
  | cons r1 r2=>cases r2;exact ⟨_,rfl,r1⟩
theorem vals2 {x y:V}{us:List Value}(r:Vals [x,y] us):∃ u w',us=[u,w']∧RelV x u∧RelV y w':=by
  cases r with
  | cons r1 r2 =>
    cases r2 with
    | cons r3 r4=>cases r4;exact ⟨_,_,rfl,r1,r3⟩
theorem call_min2 (hc:X.calm=true):CallR X (.builtin "min") (fun xs H Q=>∃ i j,xs=[.int i,.int j]∧Q (.int (if j<i then j else i)) H):=by
  intro pins s σ H xs us Q I r h
  obtain ⟨i,j,rfl,q⟩:=h
  obtain ⟨u,w',rfl,⟨t,rfl⟩,⟨t',rfl⟩⟩:=vals2 r
  refine min_two_ints (I.ok.hd hc) fun h' tk k=>⟨_,H,I.kept k,?_,q⟩
  by_cases hj:j<i
  · rw [if_pos hj,if_pos hj];exact ⟨_,rfl⟩
  · rw [if_neg hj,if_neg hj];exact ⟨_,rfl⟩
theorem call_int1:CallR X (.type "int") (fun xs H Q=>(∃ i,xs=[.int i]∧Q (.int i) H)∨∃ k,xs=[.bl k]∧Q (.int (if k then 1 else 0)) H):=by
  intro pins s σ H xs us Q I r h
  rcases h with ⟨i,rfl,q⟩ | ⟨k,rfl,q⟩
  · obtain ⟨u,rfl,t,rfl⟩:=vals1 r
    exact call_int_int ⟨.int i,H,I,⟨_,rfl⟩,q⟩
  · obtain ⟨u,rfl,r1⟩:=vals1 r
    cases r1
    exact call_int_bool ⟨.int (if k then 1 else 0),H,I.tok _,⟨_,rfl⟩,q⟩
end
end L2
namespace L2
open PySem PySem.Spec PyProof.Rows
structure ObjM (h:Heap)(x dx C:Addr)(mA:Str→Option Value):Prop where
  obj:h.get? x=some (PySem.W.instObj C dx)
  ns:h.Ns1 dx mA
  ne:dx≠x
theorem lookIn_ns {h:Heap}{dx:Addr}{mA:Str→Option Value}(n:h.Ns1 dx mA):∃ od,h.get? dx=some od∧∀ name,PySem.W.lookIn name od=some (mA name):=by
  obtain ⟨o,es,ep,ho,hd,hk,_,hm⟩:=n
  refine ⟨o,ho,fun name=>?_⟩
  have e:=hm name
  unfold nsFind findBy at e
  rw [← Array.find?_toList] at e
  unfold PySem.W.lookIn
  rw [hd]
  dsimp only
  split
  · rename_i y q
    rw [q] at e
    exact congrArg some e
  · rename_i q
    rw [q] at e
    have a:es.toList.any (·.refKey)=false:=by
      rw [List.any_eq_false]
      intro y hy
      obtain ⟨z,t,hkey⟩:=hk y (Array.mem_toList_iff.mp hy)
      simp [DictEntry.refKey,hkey]
    have a':¬ es.toList.any (·.refKey)=true:=by rw [a];exact Bool.false_ne_true
    rw [if_neg a']
    exact congrArg some e
theorem ObjM.look {h:Heap}{x dx C:Addr}{mA:Str→Option Value}(I:ObjM h x dx C mA):∃ od,PySem.W.InstAt h x (PySem.W.instObj C dx) C (some od)∧∀ name,PySem.W.lookIn name od=some (mA name) :=
  let ⟨od,ho,hl⟩:=lookIn_ns I.ns
  ⟨od,⟨I.obj,rfl,rfl,ho⟩,hl⟩
section
variable {prog:Program}{w:World}{A:Around}{E:Value→Shared→Prop}{s:Shared}{K:PySem.W.Frag}{x dx C f:Addr}{mA:Str→Option Value}{name:Str}{v:Value}
theorem get_map {expr:Bool}{Q:Value→Shared→Prop}(X:K.In s.heap)(I:ObjM s.heap x dx C mA)(hg:PySem.W.plainGet K C name=true)(hh:PySem.W.hasDictIn K C=true)
    (ha:PySem.W.findIn K (.ref C) name=some none) (hv:mA name=some v) (hv':PySem.W.handedIn v=true) (h:Q v { s with toks:=s.toks+1 }) :
    wpAny (model prog w) A (getAttr (.ref x) name expr) Q E s:=by
  obtain ⟨od,J,hl⟩:=I.look
  exact PySem.W.get_value X J (PySem.W.plainGet_of hg).1 (PySem.W.findObj_own hh ha rfl (by rw [hl,hv])) hv' h
theorem get_meth {pl:Sem Bool}{Q:Value × List Value→Shared→Prop}(X:K.In s.heap)(I:ObjM s.heap x dx C mA)(hg:PySem.W.plainGet K C name=true)
    (hf:PySem.W.findIn K (.ref C) name=some (some (.ref f))) (ht:PySem.W.isFn K (.ref f)=true) (hv:mA name=none) (h:Q (.ref f,[.ref x]) s) :
    wpAny (model prog w) A (getMethod (.ref x) name pl) Q E s:=by
  obtain ⟨od,J,hl⟩:=I.look
  exact PySem.W.method_fn X J (PySem.W.plainGet_of hg).1 (PySem.W.plainGet_of hg).2 hf (beq_iff_eq.mp ht) (by show (PySem.W.lookIn name od).map (·.isSome)=some false;rw [hl,hv];rfl) h
theorem set_map {ns:List Str}{Q:Unit→Shared→Prop}(X:K.In s.heap)(I:ObjM s.heap x dx C mA)
    (hs:PySem.W.findIn K (.ref C) "__setattr__"=some (some (.builtin "object.__setattr__"))) (hp:PySem.W.plainOver K C=true) (ht:PySem.W.takerIn K C name=some none) (hh:PySem.W.hasDictIn K C=true)
    (hw:PySem.Within mA ns) (hsz:ns.length≤sizeLine)
    (h:∀ h',ObjM h' x dx C (fun y=>if y=name then some v else mA y)→Heap.SameBut dx s.heap h'→Q () { s with heap:=h',toks:=s.toks+2 }) :
    wpAny (model prog w) A (setAttr (.ref x) name v) Q E s:=by
  obtain ⟨od,J,hl⟩:=I.look
  refine PySem.W.set_plain X J hs (PySem.W.osa_open (s:={ s with toks:=s.toks+1 }) (r:=none) X J hp ht fun b=>?_)
  obtain ⟨cd,hc,hd'⟩:=PySem.W.any_some hh
  have hx:s.heap.get? x=some ⟨.ref C,some dx,.plain,#[]⟩:=I.obj
  refine wpAny_bind (wpAny_pure (wpAny_bind (wpAny_bind (wpAny_loadPart hx (wpAny_bind (PySem.W.Looks.here (s:={ s with toks:=s.toks+1 }) (PySem.W.looks_clsIn X hc) ?_))))))
  rw [hd']
  refine wpAny_pure (a:=some dx) (wpAny_bind (wpAny_pure (wpAny_bind ?_)))
  refine wpAny_nsSet1 (s:={ s with toks:=s.toks+1 }) I.ns fun h' hn2 hs2=>?_
  obtain ⟨oD,esD,epD,hoD,hdD,hcD⟩:=hn2.count (PySem.Within.cons name v hw)
  refine wpAny_bind (wpAny_lookBehind hoD (by rw [hdD];exact pastItsLine_dict (Nat.le_trans hcD (by rw [List.length_cons];omega))) ?_)
  exact wpAny_pure (h _ ⟨(hs2.2 _ (Ne.symm I.ne)).trans I.obj,hn2,I.ne⟩ hs2)
theorem make_map {R:Result→Shared→Prop}{vs:List Value}{kw:List (Str × Value)}(X:K.In s.heap)(hm:PySem.W.makesIn K C=true)
    (hi:PySem.W.findIn K (.ref C) "__init__"=some (some (.ref f))) (hf:PySem.W.typeIn K (.ref f)=some (.type "function"))
    (h:codeAny (model prog w) (A.under (.builtin "type.__call__" ⟨.ref C::vs,kw⟩)) (.call (.ref f) ⟨.ref (s.heap.objs.size+1)::vs,kw⟩) (PySem.W.InitBack (s.heap.objs.size+1) R)
      { s with heap:=(s.heap.push PySem.W.emptyDict).push (PySem.W.instObj C s.heap.objs.size) }) :
    codeAny (model prog w) A (.call (.ref C) ⟨vs,kw⟩) R s:=by
  obtain ⟨hh,g,d,t,os⟩:=s
  exact PySem.W.make_core (PySem.W.makes_of X hm) (PySem.W.looks_findIn X hi) (fun self=>PySem.W.bind_fn X self hf) (.inl rfl) h
end
def putF (f:Str)(v:V):List (Str × V)→List (Str × V)
  | []=>[(f,v)]
  | (g,x)::r=>if g=f then (g,v)::r else (g,x)::putF f v r
theorem lookup_putF (f g:Str) (v:V):∀ fs:List (Str × V),(putF f v fs).lookup g=if g=f then some v else fs.lookup g
  | []=>by
    show List.lookup g [(f,v)]=_
    by_cases h:g=f
    · have hb:(g==f)=true:=beq_iff_eq.mpr h
      simp only [List.lookup,hb,if_pos h]
    · have hb:(g==f)=false:=beq_eq_false_iff_ne.mpr h
      simp only [List.lookup,hb,if_neg h]
  | (k, x)::r=>by
    have ih:=lookup_putF f g v r
    rw [show putF f v ((k,x)::r)=(if k=f then (k,v)::r else (k,x)::putF f v r) from rfl]
    by_cases hk:k=f
    · rw [if_pos hk]
      by_cases h:g=k
      · have hb:(g==k)=true:=beq_iff_eq.mpr h
        simp only [List.lookup,hb,if_pos (h.trans hk)]
      · have hb:(g==k)=false:=beq_eq_false_iff_ne.mpr h
        simp only [List.lookup,hb,if_neg (fun e:g=f=>h (e.trans hk.symm))]
    · rw [if_neg hk]
      by_cases h:g=k
      · have hb:(g==k)=true:=beq_iff_eq.mpr h
        simp only [List.lookup,hb,if_neg (fun e:g=f=>hk (h.symm.trans e))]
      · have hb:(g==k)=false:=beq_eq_false_iff_ne.mpr h
        simp only [List.lookup,hb]
        exact ih
theorem keys_putF (f:Str) (v:V):∀ fs:List (Str × V),f∈(putF f v fs).map (·.1)∧∀ g,g∈fs.map (·.1)→g∈(putF f v fs).map (·.1)
  | []=>⟨by simp [putF],fun g h=>by simp at h⟩
  | (k, x)::r=>by
    obtain ⟨i1,i2⟩:=keys_putF f v r
    rw [show putF f v ((k,x)::r)=(if k=f then (k,v)::r else (k,x)::putF f v r) from rfl]
    by_cases hk:k=f
    · rw [if_pos hk]
      subst hk
      exact ⟨by simp,fun g h=>by simpa using h⟩
    · rw [if_neg hk]
      refine ⟨?_,fun g h=>?_⟩
      · rw [List.map_cons]
        exact List.mem_cons_of_mem _ i1
      · rw [List.map_cons] at h ⊢
        rcases List.mem_cons.mp h with e | e
        · exact List.mem_cons.mpr (.inl e)
        · exact List.mem_cons_of_mem _ (i2 g e)
theorem length_putF (f:Str)(v:V):∀ fs:List (Str × V),(putF f v fs).length≤fs.length+1
  | []=>by simp [putF]
  | (k,x)::r=>by
    have ih:=length_putF f v r
    rw [show putF f v ((k,x)::r)=(if k=f then (k,v)::r else (k,x)::putF f v r) from rfl]
    by_cases hk:k=f
    · rw [if_pos hk,List.length_cons,List.length_cons];omega
    · rw [if_neg hk,List.length_cons,List.length_cons];omega
theorem RelO.some_of {v:V}{o:Option Value}(r:RelO (some v) o):∃ u,o=some u∧RelV v u:=by
  cases o with
  | none=>exact (show False from r).elim
  | some u=>exact ⟨u,rfl,r⟩
theorem RelO.none_of {o:Option Value}(r:RelO none o):o=none:=by
  cases o with
  | none=>rfl
  | some u=>exact (show False from r).elim
theorem handed_of {v:V}{u:Value}(r:RelV v u):PySem.W.handedIn u=true:=by
  cases v with
  | non=>cases (show u=Value.none from r);rfl
  | bl b=>cases (show u=Value.bool b from r);rfl
  | int i=>obtain ⟨t,e⟩:=(show ∃ t,u=Value.int i t from r);cases e;rfl
  | str x=>obtain ⟨t,e⟩:=(show ∃ t,u=Value.str x t from r);cases e;rfl
  | byt b=>obtain ⟨t,e⟩:=(show ∃ t,u=Value.bytes b t from r);cases e;rfl
  | flt b=>obtain ⟨t,e⟩:=(show ∃ t,u=Value.float b t from r);cases e;rfl
  | ref a=>cases (show u=Value.ref a from r);rfl
  | ty n=>cases (show u=Value.type n from r);rfl
section
variable {P:Program}{w:World}{H H':Hp}{h h':Heap}{a C dx:Addr}{fs fs':List (Str × V)}
theorem ins_get (hok:HOk P w H h)(e:H a=some (.ins C dx fs)):∃ mA,ObjM h a dx C mA∧(∀ f,RelO (fs.lookup f) (mA f))∧PySem.Within mA (fs.map (·.1))∧fs.length≤1000∧H dx=some (.own a):=by
  obtain ⟨d,z,ne,ob,mA,n,r,q⟩:=(show ObjOk P w H h a (.ins C dx fs) from hok a _ e)
  exact ⟨mA,⟨ob,n,ne⟩,r,q,z,d⟩
end
structure Cls (K:PySem.W.Frag)(C:Addr):Prop where
  pg:PySem.W.plainGet K C Str.empty=true
  hd:PySem.W.hasDictIn K C=true
  po:PySem.W.plainOver K C=true
  sa:PySem.W.findIn K (.ref C) "__setattr__"=some (some (.builtin "object.__setattr__"))
theorem Cls.get {K:PySem.W.Frag}{C:Addr}(c:Cls K C)(f:Str):PySem.W.plainGet K C f=true:=c.pg
def NoAttr (K:PySem.W.Frag)(C:Addr)(f:Str):Prop:=PySem.W.findIn K (.ref C) f=some none
theorem NoAttr.taker {K:PySem.W.Frag}{C:Addr}{f:Str}(n:NoAttr K C f):PySem.W.takerIn K C f=some none:=by
  unfold PySem.W.takerIn
  rw [show PySem.W.findIn K (.ref C) f=some none from n]
  rfl
structure Con (K:PySem.W.Frag)(C:Addr)(f:Str)(v:V)(u:Value):Prop where
  at_:PySem.W.findIn K (.ref C) f=some (some u)
  rel:RelV v u
  get:PySem.W.specialIn K u "__get__"=some none
  cp:PySem.W.copiedNames.contains f=false
structure Meth (K:PySem.W.Frag)(C:Addr)(m:Str)(f:Addr):Prop where
  at_:PySem.W.findIn K (.ref C) m=some (some (.ref f))
  fn:PySem.W.isFn K (.ref f)=true
  kp:PySem.W.keepIn K (.ref f)=true
section
variable {X:Cx}{pins:List (Addr × Obj)}{σ:St}{H:Hp}{s:Shared}{a C dx:Addr}{fs:List (Str × V)}{f:Str}{v:V}{A:Around}{E:Value→Shared→Prop}
theorem getattr_ok {b:Bool}{Q:Value→Shared→Prop}(I:Inv X pins σ H s)(e:H a=some (.ins C dx fs))(c:Cls X.K C)(n:NoAttr X.K C f)(l:fs.lookup f=some v)
    (h:∀ u s',Inv X pins σ H s'→RelV v u→Q u s'):wpAny (model X.prog X.w) A (getAttr (.ref a) f b) Q E s:=by
  obtain ⟨mA,O,r,_,_,_⟩:=ins_get I.hok e
  obtain ⟨u,hu,ru⟩:=RelO.some_of (v:=v) (o:=mA f) (by rw [← l];exact r f)
  exact get_map I.kIn O (c.get f) c.hd n hu (handed_of ru) (h u _ (I.tok _) ru)
theorem getmeth_ok {m:Str}{g:Addr}{pl:Sem Bool}{Q:Value × List Value→Shared→Prop}(I:Inv X pins σ H s)(e:H a=some (.ins C dx fs))(c:Cls X.K C)(k:Meth X.K C m g)(l:fs.lookup m=none)
    (h:Q (.ref g,[.ref a]) s):wpAny (model X.prog X.w) A (getMethod (.ref a) m pl) Q E s:=by
  obtain ⟨mA,O,r,_,_,_⟩:=ins_get I.hok e
  have hn:mA m=none:=RelO.none_of (by rw [← l];exact r m)
  exact get_meth I.kIn O (c.get m) k.at_ k.fn hn h
theorem setattr_ok {y:V}{u:Value}{Q:Unit→Shared→Prop}(I:Inv X pins σ H s)(e:H a=some (.ins C dx fs))(c:Cls X.K C)(n:NoAttr X.K C f)(hl:fs.length<1000)(ry:RelV y u)
    (h:∀ s',Inv X pins σ (upd H a (.ins C dx (putF f y fs))) s'→Q () s'):wpAny (model X.prog X.w) A (setAttr (.ref a) f u) Q E s:=by
  obtain ⟨mA,O,r,wi,_,ho⟩:=ins_get I.hok e
  have hz:(fs.map (·.1)).length≤sizeLine:=by rw [List.length_map,sizeLine_eq];omega
  refine set_map I.kIn O c.sa c.po n.taker c.hd wi hz fun h' O' sb=>h _ ?_
  have hd:∃ o,h'.get? dx=some o:=let ⟨o,_,_,e',_⟩:=O'.ns;⟨o,e'⟩
  refine I.write (x:=a) (e:=dx) (by rw [e];exact True.intro) (.inr ho) (fun b q hb z=>(sb.2 b hb).trans z) hd ?_
  refine ⟨by rw [upd_ne O.ne];exact ho,?_,O.ne,O'.obj,_,O'.ns,fun g=>?_,fun g hg=>?_⟩
  · have:=length_putF f y fs;omega
  · show RelO ((putF f y fs).lookup g) (if g=f then some u else mA g)
    rw [lookup_putF]
    by_cases q:g=f
    · rw [if_pos q,if_pos q];exact ry
    · rw [if_neg q,if_neg q];exact r g
  · by_cases q:g=f
    · rw [q];exact (keys_putF f y fs).1
    · refine (keys_putF f y fs).2 g (wi g fun z=>hg ?_)
      show (if g=f then some u else mA g)=none
      rw [if_neg q];exact z
theorem Inv.made (I:Inv X pins σ H s):Inv X pins σ (upd (upd H s.heap.objs.size (.own (s.heap.objs.size+1))) (s.heap.objs.size+1) (.ins C s.heap.objs.size []))
    { s with heap:=(s.heap.push PySem.W.emptyDict).push (PySem.W.instObj C s.heap.objs.size) }:=by
  have e1:(s.heap.push PySem.W.emptyDict).get? s.heap.objs.size=some PySem.W.emptyDict:=Heap.get?_push_size s.heap rfl
  have e2:((s.heap.push PySem.W.emptyDict).push (PySem.W.instObj C s.heap.objs.size)).get? (s.heap.objs.size+1)=some (PySem.W.instObj C s.heap.objs.size):=by
    have:=Heap.get?_push_size (s.heap.push PySem.W.emptyDict) (o:=PySem.W.instObj C s.heap.objs.size) rfl
    rwa [Heap.size_push] at this
  have e3:(s.heap.push PySem.W.emptyDict).Ns s.heap.objs.size (fun _=>none):=⟨PySem.W.emptyDict,#[],_,e1,rfl,(fun e he=>absurd he (by simp)),fun _=>rfl⟩
  have I1:=I.laid (a:=s.heap.objs.size) (o:=.own (s.heap.objs.size+1)) (h':=s.heap.push PySem.W.emptyDict) (t':=s.toks) (fun b u q=>Heap.get?_push_of_some _ q) (Nat.le_refl _) ⟨_,e1⟩
  refine I1.laid (a:=s.heap.objs.size+1) (o:=.ins C s.heap.objs.size []) (t':=s.toks) (fun b u q=>Heap.get?_push_of_some _ q) (Nat.le_of_eq (Heap.size_push _ _)) ?_
  have ne:s.heap.objs.size≠s.heap.objs.size+1:=Nat.ne_of_lt (Nat.lt_succ_self _)
  refine ⟨by rw [upd_ne ne,upd_same],Nat.zero_le _,ne,e2,fun _=>none,(Heap.Ns1.of_empty e3).at fun o q=>Heap.get?_push_of_some _ q,fun _=>True.intro,fun y hy=>absurd rfl hy⟩
theorem attr_of {prog:Program}{w:World}{env:Env}{e:Expr}{f:Str}{pos:Pos}{s:Shared}{Q:Value→Shared→Prop}(hb:attributeBase e f env (eval e env)=eval e env)
    (h:wpAny (model prog w) A (eval e env) (fun o s₁=>wpAny (model prog w) A (getAttr o f true) Q E s₁) E s):wpAny (model prog w) A (eval (.Attribute e f pos) env) Q E s :=
  Attribute_any_ h (by rw [arm_eval_Attribute,hb])
end
def tFld (K:PySem.W.Frag)(ta:TE)(f:Str):TE:=fun σ H Q=>ta σ H fun x H1=>∃ a C dx fs v,x=.ref a∧H1 a=some (.ins C dx fs)∧Cls K C∧NoAttr K C f∧fs.lookup f=some v∧Q v H1
def sFld (K:PySem.W.Frag)(ta tv:TE)(f:Str):TS:=fun D σ H=>tv σ H fun y H1=>ta σ H1 fun x H2=>∃ a C dx fs,x=.ref a∧H2 a=some (.ins C dx fs)∧Cls K C∧NoAttr K C f∧fs.length<1000 ∧
  D.nx σ (upd H2 a (.ins C dx (putF f y fs)))
section
variable {X:Cx}{o e value:Expr}{f:Str}{pos pos' tpos:Pos}{ta tv:TE}
theorem pe_fld (he:PE X e ta)(hb:attributeBase e f X.env (eval e X.env)=eval e X.env):PE X (.Attribute e f pos) (tFld X.K ta f):=by
  intro pins s σ H Q I h
  refine attr_of hb (thn (he pins s σ H _ I h) fun u s1 ⟨x,H1,I1,rx,a,C,dx,fs,v,ex,ea,c,n,l,q⟩=>?_)
  subst ex
  obtain rfl:u=Value.ref a:=rx
  exact getattr_ok I1 ea c n l fun u' s2 I2 ru=>⟨v,H1,I2,ru,q⟩
theorem ps_fld (ha:PE X o ta)(hv:PE X value tv)(hs:swapsWith value (some (.Attribute o f pos')) pos.line X.env=pure false):PS X (.Assign [.Attribute o f pos'] value pos) (sFld X.K ta tv f):=by
  intro pins s σ H D I h
  refine plainObj_wpAny_Assign_Attribute (thn (hv pins s σ H _ I h) fun u s1 ⟨y,H1,I1,ry,q⟩=>thn (ha pins s1 σ H1 _ I1 q) fun ov s2 ⟨x,H2,I2,rx,a,C,dx,fs,ex,ea,c,n,l,q2⟩=>?_) hs
  subst ex
  obtain rfl:ov=Value.ref a:=rx
  exact setattr_ok I2 ea c n l ry fun s3 I3=>⟨σ,_,I3,q2⟩
end
section
variable {X:Cx}{pins:List (Addr × Obj)}{σ:St}{H:Hp}{s:Shared}{A:Around}{E:Value→Shared→Prop}{Q:Value→Shared→Prop}{c:Value}{b:Bool}
inductive TyOf (K:PySem.W.Frag) (H:Hp):V→Value→Prop where
  | non:TyOf K H .non (.type "NoneType")
  | bl (x:Bool):TyOf K H (.bl x) (.type "bool")
  | int (i:Int):TyOf K H (.int i) (.type "int")
  | str (x:Str):TyOf K H (.str x) (.type "str")
  | flt (x:UInt64):TyOf K H (.flt x) (.type "float")
  | lst {a:Addr} {xs:List V} (e:H a=some (.lst xs)):TyOf K H (.ref a) (.type "list")
  | frz {a:Addr} {o:Obj} {xs:List V} (e:H a=some (.frz o (.lst xs))):TyOf K H (.ref a) (.type "list")
  | tup {a:Addr} {xs:List V} (e:H a=some (.tup xs)):TyOf K H (.ref a) (.type "tuple")
  | dK {a:Addr} {kvs:List (Key × V)} (e:H a=some (.dK kvs)):TyOf K H (.ref a) (.type "dict")
  | dT {a:Addr} {kvs:List (List Key × V)} (e:H a=some (.dT kvs)):TyOf K H (.ref a) (.type "dict")
  | ins {a C dx:Addr} {fs:List (Str × V)} (e:H a=some (.ins C dx fs)) (cl:Cls K C) (ha:PySem.W.findIn K (.ref C) "__class__"=some (some (.builtin "object.__class__")))
      (hn:PySem.W.specialIn K (.builtin "object.__class__") "__get__"=some (some (.builtin "getset_descriptor.__get__"))) (htk:PySem.W.takesIn K (.builtin "object.__class__")=some true)
      (hm:PySem.W.mroIn K C (.type "object")=some true):TyOf K H (.ref a) (.ref C)
theorem isinst_ok {x:V}{u t:Value}(I:Inv X pins σ H s)(rx:RelV x u)(ty:TyOf X.K H x t)(e:PySem.W.kitOne X.K t c=some b)(h:∀ tk,Q (.bool b) { s with toks:=tk }) :
    wpAny (model X.prog X.w) A (call (.builtin "isinstance") [u,c]) Q E s:=by
  cases ty with
  | non=>cases (show u=Value.none from rx);exact PySem.W.kia_one PySem.W.kitx_none I.kIn True.intro e (fun z=>nomatch z) h
  | bl y=>cases (show u=Value.bool y from rx);exact PySem.W.kia_one PySem.W.kitx_bool I.kIn True.intro e (fun z=>nomatch z) h
  | int i=>obtain ⟨t,q⟩:=(show ∃ t,u=Value.int i t from rx);cases q;exact PySem.W.kia_one PySem.W.kitx_int I.kIn True.intro e (fun z=>nomatch z) h
  | str y=>obtain ⟨t,q⟩:=(show ∃ t,u=Value.str y t from rx);cases q;exact PySem.W.kia_one PySem.W.kitx_str I.kIn True.intro e (fun z=>nomatch z) h
  | flt y=>obtain ⟨t,q⟩:=(show ∃ t,u=Value.float y t from rx);cases q;exact PySem.W.kia_one PySem.W.kitx_float I.kIn True.intro e (fun z=>nomatch z) h
  | @lst a xs ea =>
    cases (show u=Value.ref a from rx)
    obtain ⟨_,_,n,_,h1⟩:=(show ObjOk X.prog X.w H s.heap a (.lst xs) from I.hok a _ ea)
    exact PySem.W.kia_one PySem.W.kitx_list I.kIn ⟨_,h1,rfl⟩ e (fun z=>nomatch z) h
  | @frz a ob xs ea =>
    cases (show u=Value.ref a from rx)
    obtain ⟨_,_,_,n,_,h1⟩:=(show ObjOk X.prog X.w H s.heap a (.frz ob (.lst xs)) from I.hok a _ ea)
    exact PySem.W.kia_one PySem.W.kitx_list I.kIn ⟨_,h1,rfl⟩ e (fun z=>nomatch z) h
  | @tup a xs ea =>
    cases (show u=Value.ref a from rx)
    obtain ⟨_,_,_,p⟩:=(show ObjOk X.prog X.w H s.heap a (.tup xs) from I.hok a _ ea)
    obtain ⟨o,h1,h2,_⟩:=p
    exact PySem.W.kia_one PySem.W.kitx_tuple I.kIn ⟨o,h1,h2⟩ e (fun z=>nomatch z) h
  | @dK a kvs ea =>
    cases (show u=Value.ref a from rx)
    obtain ⟨_,_,vs,_,p⟩:=(show ObjOk X.prog X.w H s.heap a (.dK kvs) from I.hok a _ ea)
    obtain ⟨o,es,ep,h1,h2,_⟩:=p
    exact PySem.W.kia_one PySem.W.kitx_dict I.kIn ⟨o,h1,h2.1⟩ e (fun z=>nomatch z) h
  | @dT a kvs ea =>
    cases (show u=Value.ref a from rx)
    obtain ⟨_,_,xs,_,o,es,ep,h1,h2,_⟩:=(show ObjOk X.prog X.w H s.heap a (.dT kvs) from I.hok a _ ea)
    exact PySem.W.kia_one PySem.W.kitx_dict I.kIn ⟨o,h1,h2.1⟩ e (fun z=>nomatch z) h
  | @ins a C dx fs ea cl ha hn htk hm =>
    cases (show u=Value.ref a from rx)
    obtain ⟨mA,O,_⟩:=ins_get I.hok ea
    obtain ⟨od,J,_⟩:=O.look
    exact PySem.W.kia_one (PySem.W.kitx_own (cl.get _) cl.hd ha hn htk hm) I.kIn J e (fun z=>nomatch z) h
end
end L2
namespace L2
open PySem PySem.Spec PyProof.Rows
structure Room (k:Nat)(A:Around):Prop where
  hd:A.handled=none
  dp:A.depth+3*k+5<recursionLimit
  un:A.units+16*k+200<cLine
theorem Room.mono {j k:Nat}{A:Around}(r:Room k A)(h:j≤k):Room j A:=⟨r.hd,by have:=r.dp;omega,by have:=r.un;omega⟩
theorem Room.deeper {k:Nat}{A:Around}(r:Room (k+1) A)(env:Env):Room k (A.deeper env) :=
  ⟨r.hd,by have:=r.dp;show A.depth+1+3*k+5<_;omega,by have:=r.un;show A.units+3+16*k+200<_;omega⟩
theorem make_depth {A:Around}{C:Addr}{us:List Value}{kw:List (Str × Value)}:(A.under (.builtin "type.__call__" ⟨.ref C::us,kw⟩)).depth=A.depth+1:=by
  first | rfl | simp [Around.under,Code.weight,Code.isCreation,Code.isGuard,Code.isCaller,Code.frames,Code.isFrame,guardIds]
theorem make_units {A:Around}{C:Addr}{us:List Value}{kw:List (Str × Value)}:(A.under (.builtin "type.__call__" ⟨.ref C::us,kw⟩)).units=A.units+1:=by
  first | rfl | simp [Around.under,Code.cUnits,Code.frames,Code.isFrame]
theorem Room.make {k:Nat}{A:Around}(r:Room (k+1) A)(C:Addr)(us:List Value)(kw:List (Str × Value)):Room k (A.under (.builtin "type.__call__" ⟨.ref C::us,kw⟩)) :=
  ⟨r.hd,by have:=r.dp;rw [make_depth];omega,by have:=r.un;rw [make_units];omega⟩
theorem Room.depth {k:Nat}{A:Around}(r:Room k A):A.depth<recursionLimit:=by have:=r.dp;omega
def tNil:TA:=fun _ H Q=>Q [] H
def tCons (ta:TE)(tr:TA):TA:=fun σ H Q=>ta σ H fun x H1=>tr σ H1 fun xs H2=>Q (x::xs) H2
section
variable {X:Cx}{e:Expr}{es:List Expr}{te:TE}{t:TA}{pos:Pos}
theorem pa_nil:PA X [] tNil:=fun _ _ _ _ H Q I h=>Calls.spliced_nil ⟨[],H,I,.nil,h⟩
theorem pa_cons (ha:PE X e te)(hr:PA X es t)(hs:starEach (e::es) X.env=(false,eval e X.env)::starEach es X.env:=by rfl):PA X (e::es) (tCons te t):=by
  intro pos pins s σ H Q I h
  rw [hs]
  show wpAny _ _ (spliced ((false,eval e X.env)::backTo pos (starEach es X.env))) _ _ s
  refine Calls.spliced_cons (thn (ha pins s σ H _ I h) fun u s1 ⟨x,H1,I1,r1,q1⟩=>?_)
  exact thn (hr pos pins s1 σ H1 _ I1 q1) fun us s2 ⟨xs,H2,I2,r2,q2⟩=>⟨x::xs,H2,I2,.cons r1 r2,q2⟩
def tTup (t:TA):TE:=fun σ H Q=>t σ H fun xs H1=>xs.length≤sizeLine∧∀ p,H1 p=none→Q (.ref p) (upd H1 p (.tup xs))
def tLst (t:TA):TE:=fun σ H Q=>t σ H fun xs H1=>xs.length≤sizeLine∧∀ p,H1 p=none→Q (.ref p) (upd H1 p (.lst xs))
theorem pe_tup {x1}(h:PA X es t):PE X (.Tuple es x1 pos) (tTup t):=by
  intro pins s σ H Q I hq
  refine wpAny_Tuple_spliced (thn (h pos pins s σ H _ I hq) fun us s1 ⟨xs,H1,I1,r,z,q⟩=>⟨by rw [← r.length];exact z,?_⟩)
  have hf:H1 s1.heap.objs.size=none:=I1.hok.fresh (Nat.le_refl _)
  refine ⟨.ref s1.heap.objs.size,upd H1 s1.heap.objs.size (.tup xs),I1.laid (t':=s1.toks) (fun b u e=>Heap.get?_push_of_some _ e) (Nat.le_refl _) ?_,rfl,q _ hf⟩
  exact ⟨z,us,r,⟨_,Heap.get?_push_size _ rfl,rfl,_,rfl⟩⟩
theorem pe_lst (h:PA X es t):PE X (.List es pos) (tLst t):=by
  intro pins s σ H Q I hq
  refine wpAny_List_spliced (thn (h pos pins s σ H _ I hq) fun us s1 ⟨xs,H1,I1,r,z,q⟩=>⟨by rw [← r.length];exact z,?_⟩)
  have hf:H1 s1.heap.objs.size=none:=I1.hok.fresh (Nat.le_refl _)
  refine ⟨.ref s1.heap.objs.size,upd H1 s1.heap.objs.size (.lst xs),I1.laid (t':=s1.toks) (fun b u e=>Heap.get?_push_of_some _ e) (Nat.le_refl _) ?_,rfl,q _ hf⟩
  exact ⟨z,us,0,r,Heap.get?_push_size _ rfl⟩
end
abbrev Sp:=List V→Hp→VK→XK→Prop
abbrev CXT:=List Env→Hp→Shared→XK→Value→Shared→Prop
structure Env0 (P:Program)(w:World)(K:PySem.W.Frag)(mg:Str→Option Value)(base:Heap)(A:Around)(outer:List Env)(s:Shared)(H:Hp):Prop where
  frames:A.frames=some outer
  mod:Mod K mg base
  bs:∀ b o,base.get? b=some o→s.heap.get? b=some o∧H b=none
  bsz:base.objs.size≤s.heap.objs.size
  funs:s.heap.FunFrames base outer
  frf:∀ b∈frs outer,H b=none
  hok:HOk P w H s.heap
  bare:AllBare s.gens
def CE (outer:List Env)(P:Program)(w:World)(H:Hp)(s:Shared)(Q:VK)(u:Value)(s':Shared):Prop :=
  ∃ v H',s'.os=s.os∧AllBare s'.gens∧Un (frs outer) [] H H' s.heap s'.heap∧HOk P w H' s'.heap∧RelV v u∧Q v H'
def CR (CX:CXT)(outer:List Env)(P:Program)(w:World)(H:Hp)(s:Shared)(Q:VK)(E:XK)(r:Result)(s':Shared):Prop :=
  match r with
  | .ok (.ret u)=>CE outer P w H s Q u s'
  | .ok _=>False
  | .error e=>CX outer H s E e s'
structure FnOk (P:Program)(w:World)(K:PySem.W.Frag)(mg:Str→Option Value)(base:Heap)(CX:CXT)(k:Nat)(f:Addr)(fd:FuncData)(ps:List Str)(sp:Sp):Prop where
  len:∀ vs H Q E,sp vs H Q E→vs.length=ps.length
  run:∀ (A:Around) (outer:List Env) (s:Shared) (H:Hp) (args:Args) (us:List Value) (vs:List V) (Q:VK) (E:XK),Room k A→Env0 P w K mg base A outer s H→BindsTo s fd args (ps.zip us)→Vals vs us→sp vs H Q E →
    codeAny (model P w) A (.call (.ref f) args) (CR CX outer P w H s Q E) s
theorem FnOk.mono {P:Program}{w:World}{K:PySem.W.Frag}{mg:Str→Option Value}{base:Heap}{CX:CXT}{j k:Nat}{f:Addr}{fd:FuncData}{ps:List Str}{sp:Sp}(F:FnOk P w K mg base CX j f fd ps sp)(h:j≤k) :
    FnOk P w K mg base CX k f fd ps sp:=⟨F.len,fun A outer s H args us vs Q E hr=>F.run A outer s H args us vs Q E (hr.mono h)⟩
theorem Env0.make {P:Program}{w:World}{K:PySem.W.Frag}{mg:Str→Option Value}{base:Heap}{A:Around}{outer:List Env}{s:Shared}{H:Hp}(e:Env0 P w K mg base A outer s H)(C:Addr)(us:List Value)(kw:List (Str × Value)) :
    Env0 P w K mg base (A.under (.builtin "type.__call__" ⟨.ref C::us,kw⟩)) outer s H:=⟨by first | exact e.frames | (simpa [Around.under,Code.envs,Code.isFrame,pushEnvs] using e.frames),e.mod,e.bs,e.bsz,e.funs,e.frf,e.hok,e.bare⟩
section
variable {X:Cx}{pins:List (Addr × Obj)}{σ:St}{H:Hp}{s s':Shared}
theorem Inv.env0 (I:Inv X pins σ H s):Env0 X.prog X.w X.K X.mg X.base X.A X.stack s H :=
  ⟨I.ok.frames,I.ok.mod,I.bs,Nat.le_trans I.ok.bsz I.sz,I.stack,I.stkFree,I.hok,I.bare⟩
theorem Inv.after {Q:VK}{u:Value}(I:Inv X pins σ H s)(h:CE X.stack X.prog X.w H s Q u s'):EP X pins σ Q u s':=by
  obtain ⟨v,H',os,bare,un,hok,r,q⟩:=h
  obtain ⟨hh,g,d,t,os'⟩:=s'
  obtain rfl:os'=s.os:=os
  exact ⟨v,H',I.call (h':=hh) (g':=g) (d':=d) (t':=t) (ch:=[]) un hok bare (fun b z=>absurd z (by simp)),r,q⟩
end
def tCall (sp:Sp)(dvs:List V)(E:XK)(t:TA):TE:=fun σ H Q=>t σ H fun vs H1=>sp (vs++dvs) H1 Q E
def tMake (C:Addr)(sp:Sp)(dvs:List V)(E:XK)(t:TA):TE:=fun σ H Q=>t σ H fun vs H1=>∀ x dx,H1 x=none→H1 dx=none→dx≠x →
  sp (.ref x::(vs++dvs)) (upd (upd H1 dx (.own x)) x (.ins C dx [])) (fun v H2=>v=.non∧Q (.ref x) H2) E
def Binds (K:PySem.W.Frag)(fd:FuncData)(ps:List Str)(ds:List Value):Prop :=
  ∀ (s:Shared) (us:List Value),K.In s.heap→(us++ds).length=ps.length→BindsTo s fd ⟨us,[]⟩ (ps.zip (us++ds))
theorem Binds.all {K:PySem.W.Frag}{fd:FuncData}{ps:List Str}(h:∀ us:List Value,us.length=ps.length→bindArgs fd ⟨us,[]⟩=pure (ps.zip us)):Binds K fd ps []:=fun s us _ hl=>by
  rw [List.append_nil] at hl ⊢
  exact .of_eq (h us hl)
def Passes (CX:CXT)(X:Cx)(E:XK):Prop:=∀ (pins:List (Addr × Obj)) (σ:St) (H:Hp) (s:Shared) (e:Value) (s':Shared),Inv X pins σ H s→CX X.stack H s E e s'→X.xe e s'
section
variable {X:Cx}{CX:CXT}{k:Nat}{f C:Addr}{fd:FuncData}{ps:List Str}{sp:Sp}{dvs:List V}{ds:List Value}{E:XK}{x m:Str}{p pos apos:Pos}{e o:Expr}{es:List Expr}{ta:TE}{t:TA}
theorem run_fn {pins:List (Addr × Obj)}{σ:St}{H:Hp}{s:Shared}{Q:VK}{us:List Value}{vs:List V}(F:FnOk X.prog X.w X.K X.mg X.base CX k f fd ps sp)(hr:Room k X.A)(hb:Binds X.K fd ps ds)(hd:Vals dvs ds)(hx:Passes CX X E)
    (I:Inv X pins σ H s) (r:Vals vs us) (h:sp (vs++dvs) H Q E):wpAny (model X.prog X.w) X.A (call (.ref f) us) (EP X pins σ Q) X.xe s:=by
  have r2:Vals (vs++dvs) (us++ds):=r.append hd
  have hl:(us++ds).length=ps.length:=by rw [← r2.length];exact F.len _ _ _ _ h
  refine wpAny_call (codeAny_mono (F.run X.A X.stack s H ⟨us,[]⟩ (us++ds) (vs++dvs) Q E hr I.env0 (hb s us I.kIn hl) r2 h) fun r s' hq=>?_)
  cases r with
  | error e=>exact hx pins σ H s e s' I hq
  | ok fl =>
    cases fl with
    | ret u=>exact I.after hq
    | next=>exact False.elim hq
    | brk=>exact False.elim hq
    | cont=>exact False.elim hq
theorem pe_call (F:FnOk X.prog X.w X.K X.mg X.base CX k f fd ps sp)(hr:Room k X.A)(hg:Gl X x)(hm:X.mg x=some (.ref f))(hk:PySem.W.keepIn X.K (.ref f)=true)(hb:Binds X.K fd ps ds)(hd:Vals dvs ds)(hx:Passes CX X E)
    (ha:PA X (e::es) t) (hdb:(x==("__debug__":Str))=false:=by decide) (he:starEach (e::es) X.env=(false,eval e X.env)::starEach es X.env:=by rfl) (hpl:(backTo pos (starEach es X.env)).any (·.1)=false:=by rfl) :
    PE X (.Call (.Name x p) (e::es) [] pos) (tCall sp dvs E t):=by
  intro pins s σ H Q I h
  refine wpAny_Call_Name_kw (ld_glob I hg hm ?_ hdb)
  refine PySem.W.callWith_K (h₀:=X.base) I.ok.mod.kin hk (thn (ha pos pins s σ H _ I h) fun us s1 ⟨vs,H1,I1,r,q⟩=>⟨I1.kIn,?_⟩) he hpl
  exact run_fn F hr hb hd hx I1 r q
structure Mk (K:PySem.W.Frag)(C f:Addr):Prop where
  makes:PySem.W.makesIn K C=true
  init:PySem.W.findIn K (.ref C) "__init__"=some (some (.ref f))
  fn:PySem.W.isFn K (.ref f)=true
  kp:PySem.W.keepIn K (.ref C)=true
theorem run_make {pins:List (Addr × Obj)}{σ:St}{H:Hp}{s:Shared}{Q:VK}{us:List Value}{vs:List V}(M:Mk X.K C f)(F:FnOk X.prog X.w X.K X.mg X.base CX k f fd ps sp)(hr:Room (k+1) X.A)(hb:Binds X.K fd ps ds)(hd:Vals dvs ds)
    (hx:Passes CX X E) (I:Inv X pins σ H s) (r:Vals vs us)
    (h:∀ x dx,H x=none→H dx=none→dx≠x→sp (.ref x::(vs++dvs)) (upd (upd H dx (.own x)) x (.ins C dx [])) (fun v H2=>v=.non∧Q (.ref x) H2) E) :
    wpAny (model X.prog X.w) X.A (call (.ref C) us) (EP X pins σ Q) X.xe s:=by
  have hq:=h (s.heap.objs.size+1) s.heap.objs.size (I.hok.fresh (Nat.le_succ _)) (I.hok.fresh (Nat.le_refl _)) (Nat.ne_of_lt (Nat.lt_succ_self _))
  have I2:=Inv.made (C:=C) I
  have r2:Vals (V.ref (s.heap.objs.size+1)::(vs++dvs)) (Value.ref (s.heap.objs.size+1)::(us++ds)):=.cons rfl (r.append hd)
  have hl:(Value.ref (s.heap.objs.size+1)::us++ds).length=ps.length:=by
    have e:=r2.length
    rw [F.len _ _ _ _ hq] at e
    exact e.symm
  refine wpAny_call (make_map (f:=f) I.kIn M.makes M.init (beq_iff_eq.mp M.fn) (codeAny_mono (F.run _ X.stack _ _ ⟨Value.ref (s.heap.objs.size+1)::us,[]⟩ (Value.ref (s.heap.objs.size+1)::(us++ds)) _ _ E (hr.make C us [])
    (I2.env0.make C us []) (hb _ (Value.ref (s.heap.objs.size+1)::us) I2.kIn hl) r2 hq) fun r s' hq'=>?_))
  cases r with
  | error e=>exact hx pins σ _ _ e s' I2 hq'
  | ok fl =>
    cases fl with
    | ret u =>
      obtain ⟨v,H',I3,rv,ev,q3⟩:=I2.after hq'
      subst ev
      exact ⟨rv,⟨V.ref (s.heap.objs.size+1),H',I3,rfl,q3⟩⟩
    | next=>exact False.elim hq'
    | brk=>exact False.elim hq'
    | cont=>exact False.elim hq'
theorem pe_make (M:Mk X.K C f)(F:FnOk X.prog X.w X.K X.mg X.base CX k f fd ps sp)(hr:Room (k+1) X.A)(hg:Gl X x)(hm:X.mg x=some (.ref C))(hb:Binds X.K fd ps ds)(hd:Vals dvs ds)(hx:Passes CX X E)
    (ha:PA X (e::es) t) (hdb:(x==("__debug__":Str))=false:=by decide) (he:starEach (e::es) X.env=(false,eval e X.env)::starEach es X.env:=by rfl) (hpl:(backTo pos (starEach es X.env)).any (·.1)=false:=by rfl) :
    PE X (.Call (.Name x p) (e::es) [] pos) (tMake C sp dvs E t):=by
  intro pins s σ H Q I h
  refine wpAny_Call_Name_kw (ld_glob I hg hm ?_ hdb)
  refine PySem.W.callWith_K (h₀:=X.base) I.ok.mod.kin M.kp (thn (ha pos pins s σ H _ I h) fun us s1 ⟨vs,H1,I1,r,q⟩=>⟨I1.kIn,?_⟩) he hpl
  exact run_make M F hr hb hd hx I1 r q
theorem pe_make0 (M:Mk X.K C f)(F:FnOk X.prog X.w X.K X.mg X.base CX k f fd ps sp)(hr:Room (k+1) X.A)(hg:Gl X x)(hm:X.mg x=some (.ref C))(hb:Binds X.K fd ps ds)(hd:Vals dvs ds)(hx:Passes CX X E)
    (hdb:(x==("__debug__":Str))=false:=by decide):PE X (.Call (.Name x p) [] [] pos) (tMake C sp dvs E tNil):=by
  intro pins s σ H Q I h
  refine wpAny_Call_Name_kw (ld_glob I hg hm ?_ hdb)
  exact PySem.W.callWith_K0 I.kIn M.kp (run_make (us:=[]) M F hr hb hd hx I .nil h)
end
section
variable {X:Cx}{CX:CXT}{k:Nat}{f C:Addr}{fd:FuncData}{ps ks:List Str}{sp:Sp}{E:XK}{x m:Str}{p pos apos kpos:Pos}{e o:Expr}{es:List Expr}{kws:List Keyword}{te ta:TE}{t tk:TA}{nm:Option Str}
structure KBinds (K:PySem.W.Frag)(fd:FuncData)(ps ks:List Str)(g:List Value→List Value→List Value)(gV:List V→List V→List V):Prop where
  to:∀ (s:Shared) (us ws:List Value),K.In s.heap→(g us ws).length=ps.length→BindsTo s fd ⟨us,ks.zip ws⟩ (ps.zip (g us ws))
  rel:∀ {vs:List V} {us:List Value} {zs:List V} {ws:List Value},Vals vs us→Vals zs ws→Vals (gV vs zs) (g us ws)
variable {g:List Value→List Value→List Value}{gV:List V→List V→List V}
end
structure FnScope (N P:List Str)(sc:Scope):Prop where
  kind:sc.kind=.function
  co:sc.isCoroutine=false
  gen:sc.isGenerator=false
  nd:N.Nodup
  pre:N.take P.length=P
  par:∀ x∈P,sc.names.lookup x=some .local∨sc.names.lookup x=some .cell
  nofree:∀ y∈sc.names,y.2≠.free
theorem bindL_out {kindOf:Str→Option NameKind}{x:Str}:∀ {binds:List (Str × Value)} {m:Str→Option Value},(∀ v,(x,v)∉binds)→bindL kindOf binds m x=m x
  | [],_,_=>rfl
  | (n,v)::r,m,h=>by
    unfold bindL
    rw [bindL_out fun w hw=>h w (List.mem_cons_of_mem _ hw)]
    split
    · have:x≠n:=by rintro rfl;exact h v List.mem_cons_self
      simp [this]
    · rfl
theorem bindC_out {kindOf:Str→Option NameKind}{x:Str}:∀ {binds:List (Str × Value)} {m:Str→Option Value},(∀ v,(x,v)∉binds)→bindC kindOf binds m x=m x
  | [],_,_=>rfl
  | (n,v)::r,m,h=>by
    unfold bindC
    rw [bindC_out fun w hw=>h w (List.mem_cons_of_mem _ hw)]
    split
    · rfl
    · have:x≠n:=by rintro rfl;exact h v List.mem_cons_self
      simp [this]
theorem bindL_get {kindOf:Str→Option NameKind}{x:Str}{v:Value}:∀ {P:List Str} {vs:List Value} {i:Nat} {m:Str→Option Value},P.Nodup→P[i]?=some x→vs[i]?=some v→kindOf x=some .local →
    bindL kindOf (P.zip vs) m x=some v
  | [],_,_,_,_,h,_,_=>by simp at h
  | _::_,[],_,_,_,_,h,_=>by simp at h
  | p::P,w::vs,0,m,nd,h1,h2,hk=>by
    simp at h1 h2;subst h1;subst h2
    show bindL kindOf ((p,w)::P.zip vs) m p=_
    unfold bindL
    rw [bindL_out fun v hv=>(List.nodup_cons.mp nd).1 (List.of_mem_zip hv).1,if_pos hk]
    simp
  | p::P,w::vs,i+1,m,nd,h1,h2,hk=>by
    show bindL kindOf ((p,w)::P.zip vs) m x=_
    unfold bindL
    exact bindL_get (i:=i) (List.nodup_cons.mp nd).2 (by simpa using h1) (by simpa using h2) hk
theorem bindC_get {kindOf:Str→Option NameKind}{x:Str}{v:Value}:∀ {P:List Str} {vs:List Value} {i:Nat} {m:Str→Option Value},P.Nodup→P[i]?=some x→vs[i]?=some v→kindOf x≠some .local →
    bindC kindOf (P.zip vs) m x=some v
  | [],_,_,_,_,h,_,_=>by simp at h
  | _::_,[],_,_,_,_,h,_=>by simp at h
  | p::P,w::vs,0,m,nd,h1,h2,hk=>by
    simp at h1 h2;subst h1;subst h2
    show bindC kindOf ((p,w)::P.zip vs) m p=_
    unfold bindC
    rw [bindC_out fun v hv=>(List.nodup_cons.mp nd).1 (List.of_mem_zip hv).1,if_neg hk]
    simp
  | p::P,w::vs,i+1,m,nd,h1,h2,hk=>by
    show bindC kindOf ((p,w)::P.zip vs) m x=_
    unfold bindC
    exact bindC_get (i:=i) (List.nodup_cons.mp nd).2 (by simpa using h1) (by simpa using h2) hk
def start (N:List Str)(vs:List V):St:=vs.map some++List.replicate (N.length-vs.length) none
def cxOf (CX:CXT)(P:Program)(w:World)(K:PySem.W.Frag)(mg:Str→Option Value)(base:Heap)(N:List Str)(qual:Str)(scope:Scope)(f:Addr)(cd:Value)(A:Around)(outer:List Env)(s:Shared)(H:Hp)(E:XK):Cx where
  prog:=P
  w:=w
  K:=K
  mg:=mg
  base:=base
  A:=A.deeper (envOfC qual scope s.heap.objs.size f cd)
  N:=N
  s₀:=s
  H₀:=H
  env:=envOfC qual scope s.heap.objs.size f cd
  outer:=outer
  stack:=envOfC qual scope s.heap.objs.size f cd::outer
  ex:=[]
  calm:=true
  fn:=fun _=>true
  pn:=[]
  xe:=fun e s'=>wpAny (model P w) (A.deeper (envOfC qual scope s.heap.objs.size f cd)) (leaving (envOfC qual scope s.heap.objs.size f cd) e) (fun _ s''=>CX outer H s E e s'') (fun e' s''=>CX outer H s E e' s'') s'
theorem cell_has {sc:Scope}{n:Nat}{x:Str}(h:sc.names.lookup x=some .cell):∃ c,(cellsFrom n sc.names []).lookup x=some c:=by
  have q:=PySem.W.cellsFrom_some sc.names n [] (.inl h)
  exact Option.isSome_iff_exists.mp q
theorem inv_start {CX:CXT} {P:Program} {w:World} {K:PySem.W.Frag} {mg:Str→Option Value} {base:Heap} {N ps:List Str} {qual:Str} {scope:Scope} {f:Addr} {cd:Value} {A:Around} {outer:List Env} {s s1:Shared} {H:Hp} {E:XK} {us:List Value} {vs:List V}
    (S:FnScope N ps scope) (hd:A.handled=none) (e0:Env0 P w K mg base A outer s H) (hl:vs.length=ps.length) (r:Vals vs us)
    (x:InCallC s s.heap.objs.size (bindL (envOfC qual scope s.heap.objs.size f cd).kindOf (ps.zip us) fun _=>none) (cellsFrom (s.heap.objs.size+1) scope.names []) (bindC (envOfC qual scope s.heap.objs.size f cd).kindOf (ps.zip us) fun _=>none) s1) :
    Inv (cxOf CX P w K mg base N qual scope f cd A outer s H E) [] (start N vs) H s1:=by
  have hpl:ps.length≤N.length:=by have:=congrArg List.length S.pre;rw [List.length_take] at this;omega
  obtain ⟨h1,tk,rfl,hk⟩:=x.done
  have noA:∀ b:Addr,b∉(cxOf CX P w K mg base N qual scope f cd A outer s H E).ex:=fun b z=>absurd (show b∈([]:List Addr) from z) (by simp)
  refine ⟨⟨e0.mod,S.kind,rfl,rfl,Nat.le_refl _,fun y z c h1 h2=>?_,fun y hy=>?_,fun y c _ h=>?_,fun _=>hd,Around.frames_deeper e0.frames,.inr ⟨rfl,rfl⟩,fun b z=>absurd z (noA b),e0.bs,e0.bsz,fun b _ _=>noA b,fun b z=>absurd z (noA b),e0.funs,e0.frf⟩,
    rfl,e0.bare,Un.kept hk,⟨_,x.toInCall.ns,fun i y v h1 h2 h3=>?_⟩,fun y c h=>⟨_,x.cell y c h⟩,e0.hok.fresh (Nat.le_refl _),fun y c h=>?_,fun p hp=>absurd (show p∈([]:List (Addr × Obj)) from hp) (by simp),e0.hok.kept hk,?_⟩
  · exact name_of_addr x.apart (PySem.mem_of_lookup h1) (PySem.mem_of_lookup h2)
  · have hy:scope.names.lookup y=some .cell∨scope.names.lookup y=some .free:=hy
    rcases hy with hy | hy
    · exact cell_has hy
    · exact absurd rfl (S.nofree _ (PySem.mem_of_lookup hy))
  · exact Nat.le_of_lt (x.above y c (PySem.mem_of_lookup h))
  · have hi:i<vs.length:=by
      unfold start at h2
      by_cases hi:i<vs.length
      · exact hi
      · rw [List.getElem?_append_right (by simpa using hi)] at h2
        rw [List.getElem?_replicate] at h2
        split at h2<;>cases h2
    have ha:vs[i]?=some v:=by
      unfold start at h2
      rw [List.getElem?_append_left (by simpa using hi),List.getElem?_map] at h2
      cases e:vs[i]? with
      | none=>rw [e] at h2;cases h2
      | some a=>rw [e] at h2;cases h2;rfl
    obtain ⟨u,hu,rv⟩:=r.get ha
    have hp:ps[i]?=some y:=by
      rw [← S.pre,List.getElem?_take_of_lt (by omega)];exact h1
    have ndP:ps.Nodup:=by rw [← S.pre];exact S.nd.sublist (List.take_sublist _ _)
    refine ⟨u,rv,?_⟩
    rcases S.par y (List.mem_of_getElem? hp) with k | k
    · exact .inl ⟨k,bindL_get ndP hp hu k⟩
    · obtain ⟨c,e⟩:=cell_has (n:=s.heap.objs.size+1) k
      refine .inr ⟨.inl k,c,e,?_⟩
      have q:=x.cell y c e
      rw [bindC_get ndP hp hu (by show scope.names.lookup y≠_;rw [k];decide)] at q
      exact q
  · exact e0.hok.fresh (Nat.le_of_lt (x.above y c (PySem.mem_of_lookup h)))
  · unfold start
    show _=N.length
    rw [List.length_append,List.length_map,List.length_replicate]
    omega
theorem fn_of {CX:CXT}{P:Program}{w:World}{K:PySem.W.Frag}{mg:Str→Option Value}{base:Heap}{k:Nat}{f:Addr}{name qual:Str}{params:Arguments}{body:List Stmt}{scope:Scope}{dV kV doc pm cdv ct oc:Value}{an od:Option Addr}
    {osl:Array (Option Value)} {N ps:List Str} {sp:Sp} (lk:K.lookup f=some ⟨oc,od,.func (PySem.W.fnOf name qual params body scope dV kV doc pm an cdv ct),osl⟩) (hcd:PySem.W.codeIn K cdv qual=true) (S:FnScope N ps scope)
    (len:∀ vs H Q E,sp vs H Q E→vs.length=ps.length)
    (hbody:∀ (A:Around) (outer:List Env) (s:Shared) (H:Hp) (vs:List V) (Q:VK) (E:XK),Room k (A.deeper (envOfC qual scope s.heap.objs.size f cdv))→sp vs H Q E →
      ∃ t,PSs (cxOf CX P w K mg base N qual scope f cdv A outer s H E) body t∧t { nx:=fun _ H'=>Q .non H',rt:=Q } (start N vs) H) :
    FnOk P w K mg base CX (k+1) f (PySem.W.fnOf name qual params body scope dV kV doc pm an cdv ct) ps sp:=by
  refine ⟨len,fun A outer s H args us vs Q E hr e0 hb r hsp=>?_⟩
  have hl:=len _ _ _ _ hsp
  have KX:K.In s.heap:=e0.mod.kin.keeps fun b o e=>(e0.bs b o e).1
  have lim:s.heap.NoLimit:=e0.mod.nolimit.keeps fun b o e=>(e0.bs b o e).1
  have hkind:∀ y∈ps.zip us,scope.names.lookup y.1=some .local∨(scope.names.lookup y.1=some .cell∧((cellsFrom (s.heap.objs.size+1) scope.names []).lookup y.1).isSome=true):=fun ⟨n,v⟩ hy=>by
    rcases S.par n (List.of_mem_zip hy).1 with q | q
    · exact .inl q
    · exact .inr ⟨q,PySem.W.cellsFrom_some _ _ _ (.inl q)⟩
  refine codeAny_call_function hr.depth (KX _ _ lk) rfl S.co S.gen rfl (PySem.W.codeRec_of KX hcd) (hb _ _ _ _ ?_)
  refine wpAny_newFunctionEnv_cells S.kind hkind fun env he s1 x=>?_
  subst he
  refine ⟨lim.keeps x.toInCall.keep,codeAny_func ?_⟩
  obtain ⟨t,ht,hq⟩:=hbody A outer s H vs Q E (hr.deeper _) hsp
  have I:Inv (cxOf CX P w K mg base N qual scope f cdv A outer s H E) [] (start N vs) H s1:=inv_start S hr.hd e0 hl r x
  refine wpAny_mono (ht [] s1 (start N vs) H _ I hq) (fun fl s' hs=>?_) fun e s' hs=>hs
  have fin:∀ {σ':St} {H':Hp} {v:V} {u:Value},Inv (cxOf CX P w K mg base N qual scope f cdv A outer s H E) [] σ' H' s'→RelV v u→Q v H'→CE outer P w H s Q u s' :=
    fun {σ' H' v u} J rv q=>⟨v,H',J.os,J.bare,J.base,J.hok,rv,q⟩
  cases fl with
  | ret u =>
    obtain ⟨v,σ',H',J,rv,q⟩:=hs
    exact fin J rv q
  | next =>
    obtain ⟨σ',H',J,q⟩:=hs
    exact fin (v:=V.non) (u:=Value.none) J rfl q
  | brk =>
    obtain ⟨_,_,_,q⟩:=hs
    exact False.elim q
  | cont =>
    obtain ⟨_,_,_,q⟩:=hs
    exact False.elim q
end L2
namespace L2
open PySem PySem.Spec PyProof.Rows
section
variable {X:Cx}{x:Str}{p pos:Pos}{e:Expr}{es:List Expr}{t:TA}{id T:String}{r:List V→Hp→VK→Prop}
def tCB (r:List V→Hp→VK→Prop)(t:TA):TE:=fun σ H Q=>t σ H fun vs H1=>r vs H1 Q
theorem pe_callB (hc:CallR X (.builtin id) r)(hg:Gl X x)(hm:X.mg x=none)(hv:bootBuiltins x=some (.builtin id))(ha:PA X (e::es) t)(hn:x≠"__name__":=by decide)(hdb:(x==("__debug__":Str))=false:=by decide)
    (he:starEach (e::es) X.env=(false,eval e X.env)::starEach es X.env:=by rfl) (hpl:(backTo pos (starEach es X.env)).any (·.1)=false:=by rfl):PE X (.Call (.Name x p) (e::es) [] pos) (tCB r t):=by
  intro pins s σ H Q I h
  refine wpAny_Call_Name_kw (ld_blt I hg hm hv ?_ hn hdb)
  exact PyProof.Rows.callWith_builtin1 (thn (ha pos pins s σ H _ I h) fun us s1 ⟨vs,H1,I1,r1,q1⟩=>hc pins s1 σ H1 vs us Q I1 r1 q1) he hpl
theorem pe_callTy (hc:CallR X (.type T) r)(hg:Gl X x)(hm:X.mg x=none)(hv:bootBuiltins x=some (.type T))(ha:PA X (e::es) t)(hn:x≠"__name__":=by decide)(hdb:(x==("__debug__":Str))=false:=by decide)
    (he:starEach (e::es) X.env=(false,eval e X.env)::starEach es X.env:=by rfl) (hpl:(backTo pos (starEach es X.env)).any (·.1)=false:=by rfl):PE X (.Call (.Name x p) (e::es) [] pos) (tCB r t):=by
  intro pins s σ H Q I h
  refine wpAny_Call_Name_kw (ld_blt I hg hm hv ?_ hn hdb)
  exact PyProof.Rows.callWith_type1 (thn (ha pos pins s σ H _ I h) fun us s1 ⟨vs,H1,I1,r1,q1⟩=>hc pins s1 σ H1 vs us Q I1 r1 q1) he hpl
end
end L2
namespace HT
open PySem PyProof.Rows
section
open PySem.SeqAt
open PySem.AutoSeq1 (wpAny_loadPart')
open PySem.MeetsSeq PySem.MeetsSeq2 PySem.MeetsSeq3
end
section
variable {prog:Program}{w:World}{A:Around}{E:Value→Shared→Prop}{s:Shared}
def sIx (n d:Nat):Option Int→Nat
  | none=>d
  | some v=>if v<0 then (v+(n:Int)).toNat else min v.toNat n
theorem sIx_nat (n d k:Nat):sIx n d (some (k:Int))=min k n:=by
  show (if (k:Int)<0 then ((k:Int)+(n:Int)).toNat else min (k:Int).toNat n)=min k n
  rw [if_neg (by omega),Int.toNat_natCast]
end
end HT
namespace L2
open PySem PySem.Spec PyProof.Rows
abbrev TO:=St→Hp→(Option Int→Hp→Prop)→Prop
def PO (X:Cx) (e:Option Expr) (t:TO):Prop :=
  ∀ (pins:List (Addr × Obj)) (s:Shared) (σ:St) (H:Hp) (Q:Option Int→Hp→Prop),Inv X pins σ H s→t σ H Q →
    wpAny (model X.prog X.w) X.A (evalPart e X.env) (fun u s'=>∃ o H',Inv X pins σ H' s'∧IsPart u o∧Q o H') X.xe s
def tNoPart:TO:=fun _ H Q=>Q none H
def tPart (t:TE):TO:=fun σ H Q=>t σ H fun x H1=>∃ i,x=.int i∧Q (some i) H1
section
variable {X:Cx}{e:Expr}{te:TE}{lo hi:Option Expr}{tl th:TO}{pos p2:Pos}
theorem po_none:PO X none tNoPart:=by
  intro pins s σ H Q I h
  rw [evalPart_none]
  exact wpAny_pure ⟨none,H,I,.none,h⟩
theorem po_some (h:PE X e te):PO X (some e) (tPart te):=by
  intro pins s σ H Q I hw
  rw [evalPart_some]
  refine thn (h pins s σ H _ I hw) fun u s1 ⟨x,H1,I1,r1,q1⟩=>?_
  obtain ⟨i,rfl,q⟩:=q1
  obtain ⟨t,rfl⟩:=r1
  exact ⟨some i,H1,I1,.int i t,q⟩
def SlR (X:Cx) (r:V→Option Int→Option Int→Hp→VK→Prop):Prop :=
  ∀ (pins:List (Addr × Obj)) (s:Shared) (σ:St) (H:Hp) (x:V) (v vl vu:Value) (lo hi:Option Int) (sl:Addr) (Q:VK),Inv X pins σ H s→RelV x v→s.heap.IsSliceOf sl vl vu .none→IsPart vl lo→IsPart vu hi→r x lo hi H Q →
    ∃ T id,typeLookup (.type T) "__getitem__"=pure (some (.builtin id))∧s.TypeIs v T∧wpAny (model X.prog X.w) X.A (getItem v (.ref sl)) (EP X pins σ Q) X.xe s
def tSl (r:V→Option Int→Option Int→Hp→VK→Prop)(te:TE)(tl th:TO):TE:=fun σ H Q=>te σ H fun x H1=>tl σ H1 fun l H2=>th σ H2 fun u H3=>r x l u H3 Q
theorem pe_slice {r:V→Option Int→Option Int→Hp→VK→Prop}(hr:SlR X r)(he:PE X e te)(hl:PO X lo tl)(hu:PO X hi th):PE X (.Subscript e (.Slice lo hi none p2) pos) (tSl r te tl th):=by
  intro pins s σ H Q I h
  refine Subscript_ (thn (he pins s σ H _ I h) fun v s1 ⟨x,H1,I1,r1,q1⟩=>?_)
  refine wpAny_Slice (thn (hl pins s1 σ H1 _ I1 q1) fun vl s2 ⟨l,H2,I2,pl,q2⟩=>thn (hu pins s2 σ H2 _ I2 q2) fun vu s3 ⟨u,H3,I3,pu,q3⟩=>?_)
  rw [evalPart_none]
  refine wpAny_pure ?_
  have I4:Inv X pins σ H3 { s3 with heap:=s3.heap.push { cls:=.type "slice",data:=.fields #[vl,vu,.none] } }:=I3.kept (t':=s3.toks) fun b ob q=>Heap.get?_push_of_some _ q
  obtain ⟨T,id,hT,ht,hg⟩:=hr pins { s3 with heap:=s3.heap.push { cls:=.type "slice",data:=.fields #[vl,vu,.none] } } σ H3 x v vl vu l u s3.heap.objs.size Q I4 r1 (Heap.IsSliceOf.new ..) pl pu q3
  show wpAny (model X.prog X.w) X.A (subscriptTail e (.Slice lo hi none p2) v (.ref s3.heap.objs.size)) (EP X pins σ Q) X.xe { s3 with heap:=s3.heap.push { cls:=.type "slice",data:=.fields #[vl,vu,.none] } }
  exact tail_any (ops:=[.ref s3.heap.objs.size,v]) ht hT hg (by with_unfolding_all rfl)
def cutV (xs:List V)(lo hi:Option Int):List V:=(xs.drop (HT.sIx xs.length 0 lo)).take (HT.sIx xs.length xs.length hi-HT.sIx xs.length 0 lo)
theorem cutV_length (xs:List V)(lo hi:Option Int):(cutV xs lo hi).length≤xs.length:=by
  unfold cutV
  rw [List.length_take,List.length_drop]
  omega
end
end L2
namespace L2
open PySem PySem.Spec PyProof.Rows
def ixN (n:Nat)(i:Int):Option Nat:=if 0≤i then (if i<n then some i.toNat else none) else if -(n:Int)≤i then some (i+n).toNat else none
def atI {α:Type}(xs:List α)(i:Int):Option α:=(ixN xs.length i).bind fun j=>xs[j]?
theorem ixN_seq {n:Nat}{i:Int}{j:Nat}(h:ixN n i=some j):seqIndex? i n=some j∧j<n∧-(n:Int)≤i∧i<n:=by
  unfold ixN at h
  by_cases h0:0≤i
  · rw [if_pos h0] at h
    by_cases h1:i<n
    · rw [if_pos h1] at h
      have e:i.toNat=j:=Option.some.inj h
      exact ⟨by rw [seqIndex_of h0 h1,e],by omega,by omega,h1⟩
    · rw [if_neg h1] at h;cases h
  · rw [if_neg h0] at h
    by_cases h1:-(n:Int)≤i
    · rw [if_pos h1] at h
      have e:(i+n).toNat=j:=Option.some.inj h
      exact ⟨by rw [seqIndex_neg (by omega) h1,e],by omega,h1,by omega⟩
    · rw [if_neg h1] at h;cases h
theorem atI_get {α:Type}{xs:List α}{i:Int}{v:α}(h:atI xs i=some v):∃ j,seqIndex? i xs.length=some j∧xs[j]?=some v∧j<xs.length∧-(xs.length:Int)≤i∧i<xs.length:=by
  unfold atI at h
  cases e:ixN xs.length i with
  | none=>rw [e] at h;cases h
  | some j =>
    rw [e] at h
    obtain ⟨h1,h2,h3,h4⟩:=ixN_seq e
    exact ⟨j,h1,h,h2,h3,h4⟩
theorem atI_nat {α:Type}{xs:List α}{j:Nat}{v:α}(h:xs[j]?=some v):atI xs (j:Int)=some v:=by
  have hj:j<xs.length:=(List.getElem?_eq_some_iff.mp h).1
  have e:ixN xs.length (j:Int)=some j:=by
    unfold ixN
    rw [if_pos (by omega),if_pos (by omega)];simp
  unfold atI;rw [e];exact h
def PlainIx (b:Expr):Prop:=∀ o i,subscripted b false o i=operate [o,i] (getItem o i)
def IxR (X:Cx) (r:R2):Prop :=
  ∀ (value slice:Expr) (pins:List (Addr × Obj)) (s:Shared) (σ:St) (H:Hp) (x y:V) (v u:Value) (Q:VK),Inv X pins σ H s→RelV x v→RelV y u→r x y H Q →
    subscripted slice false v u=operate [v,u] (getItem v u)→wpAny (model X.prog X.w) X.A (subscriptTail value slice v u) (EP X pins σ Q) X.xe s
def MtR (X:Cx) (id:String) (r:V→List V→Hp→VK→Prop):Prop :=
  ∀ (pins:List (Addr × Obj)) (s:Shared) (σ:St) (H:Hp) (x:V) (xs:List V) (v:Value) (us:List Value) (Q:VK),Inv X pins σ H s→RelV x v→Vals xs us→r x xs H Q →
    wpAny (model X.prog X.w) X.A (call (.builtin id) (v::us)) (EP X pins σ Q) X.xe s
section
variable {X:Cx}{a b:Expr}{ta tb:TE}{pos:Pos}
theorem pe_ix {r:R2}(hr:IxR X r)(ha:PE X a ta)(hb:PE X b tb)(hs:PlainIx b):PE X (.Subscript a b pos) (tOp r ta tb):=by
  intro pins s σ H Q I h
  exact Subscript_ (binT ha hb I h fun v u s2 x y H2 I2 rx ry q=>hr a b pins s2 σ H2 x y v u Q I2 rx ry q (hs _ _))
def rIxL (K:PySem.W.Frag):R2:=fun x y H Q=>∃ p xs i v,x=.ref p∧y=.int i∧SqL K H p xs∧atI xs i=some v∧Q v H
def rIxT (K:PySem.W.Frag):R2:=fun x y H Q=>∃ p xs i v,x=.ref p∧y=.int i∧SqT K H p xs∧atI xs i=some v∧Q v H
def rIxS:R2:=fun x y H Q=>∃ z i c,x=.str z∧y=.int i∧z.length≤sizeLine∧atI z.cps.toList i=some c∧Q (.str ⟨#[c]⟩) H
theorem ix_list:IxR X (rIxL X.K):=by
  intro value slice pins s σ H x y v u Q I rx ry h hs
  obtain ⟨p,xs,i,z,rfl,rfl,hq,he,q⟩:=h
  cases rx
  obtain ⟨t,rfl⟩:=ry
  obtain ⟨its,r,pl,hz⟩:=I.list hq
  obtain ⟨j,h1,h2,h3,h4,h5⟩:=atI_get he
  obtain ⟨w,ew,rw'⟩:=r.get h2
  have hl:=r.length
  have hn:=line63
  have fin:EP X pins σ Q w s:=⟨z,H,I,rw',q⟩
  by_cases h0:0≤i
  · have hj:i.toNat=j:=by
      rw [seqIndex_of h0 h5] at h1
      exact Option.some.inj h1
    exact item_listR pl.isList h0 (by omega) (by rw [hj];simpa using ew) fin hs
  · have hj:(i+(its.toArray.size:Int)).toNat=j:=by
      rw [seqIndex_neg (by omega) h4] at h1
      rw [List.size_toArray,← hl]
      exact Option.some.inj h1
    exact subscriptTail_builtinR (x:=w) pl.isList.typeIs slot_list_getitem.lookup
      (wpAny_getItem_list_neg (Q:=fun r s'=>r=w∧EP X pins σ Q r s') pl.isList (by omega) (by rw [List.size_toArray]<;>omega) (by omega) (by rw [hj];simpa using ew) ⟨rfl,fin⟩) hs
theorem ix_tup:IxR X (rIxT X.K):=by
  intro value slice pins s σ H x y v u Q I rx ry h hs
  obtain ⟨p,xs,i,z,rfl,rfl,hq,he,q⟩:=h
  cases rx
  obtain ⟨t,rfl⟩:=ry
  obtain ⟨its,r,pl,hz⟩:=I.tuple hq
  obtain ⟨j,h1,h2,h3,h4,h5⟩:=atI_get he
  obtain ⟨w,ew,rw'⟩:=r.get h2
  have hl:=r.length
  have hn:=line63
  have fin:EP X pins σ Q w s:=⟨z,H,I,rw',q⟩
  exact subscriptTail_builtinR (x:=w) pl.typeIs slot_tuple_getitem.lookup
    (getItem_tuple (j:=j) (Q:=fun r s'=>r=w∧EP X pins σ Q r s') pl (by omega) (by omega) (by rw [List.size_toArray,← hl];exact h1) (by simpa using ew) ⟨rfl,fin⟩) hs
theorem ix_str:IxR X rIxS:=by
  intro value slice pins s σ H x y v u Q I rx ry h hs
  obtain ⟨z,i,c,rfl,rfl,hz,he,q⟩:=h
  obtain ⟨t,rfl⟩:=rx
  obtain ⟨t',rfl⟩:=ry
  obtain ⟨j,h1,h2,h3,h4,h5⟩:=atI_get he
  have hl:z.cps.toList.length=z.length:=by simp [Str.length]
  rw [hl] at h1 h4 h5
  have hn:=line63
  exact tail_any (typeIs_str s z t) slot_str_getitem.lookup (getItem_str (c:=c) (by
    have e1:decide (i < -(2^63:Int))=false:=decide_eq_false (by omega)
    have e2:decide (i≥2^63)=false:=decide_eq_false (by omega)
    rw [e1,e2,Bool.or_false]) (by rw [h1];simpa using h2) ⟨.str ⟨#[c]⟩,H,I.tok _,⟨_,rfl⟩,q⟩) hs
theorem slice_bounds (lo hi:Option Int)(n:Nat):(sliceBounds lo hi none n).1=((HT.sIx n 0 lo:Nat):Int)∧(sliceBounds lo hi none n).2.1=((HT.sIx n n hi:Nat):Int)∧(sliceBounds lo hi none n).2.2=1:=by
  refine ⟨?_,?_,rfl⟩
  · cases lo with
    | none=>simp [sliceBounds,HT.sIx]
    | some i =>
      simp only [sliceBounds,HT.sIx,Option.getD_none,show (1:Int) > 0 by decide,if_true]
      by_cases h:i<0
      · simp only [h,if_true]<;>omega
      · simp only [h,if_false]<;>omega
  · cases hi with
    | none=>simp [sliceBounds,HT.sIx]
    | some i =>
      simp only [sliceBounds,HT.sIx,Option.getD_none,show (1:Int) > 0 by decide,if_true]
      by_cases h:i<0
      · simp only [h,if_true]<;>omega
      · simp only [h,if_false]<;>omega
theorem slicePick_cut (its:List Value)(lo hi:Option Int):slicePick its.toArray lo hi none=((its.drop (HT.sIx its.length 0 lo)).take (HT.sIx its.length its.length hi-HT.sIx its.length 0 lo)).toArray:=by
  obtain ⟨h1,h2,h3⟩:=slice_bounds lo hi its.toArray.size
  unfold slicePick
  rw [h1,h2,h3]
  simp only [sliceRange_one,pick_run,List.size_toArray]<;>rfl
def rSlL (K:PySem.W.Frag):V→Option Int→Option Int→Hp→VK→Prop:=fun x lo hi H Q=>∃ a xs,x=.ref a∧SqL K H a xs∧∀ p,H p=none→Q (.ref p) (upd H p (.lst (cutV xs lo hi)))
theorem sl_list:SlR X (rSlL X.K):=by
  intro pins s σ H x v vl vu lo hi sl Q I rx hs pl pu h
  obtain ⟨a,xs,rfl,hx,q⟩:=h
  cases rx
  obtain ⟨its,r,ht,hz⟩:=I.list hx
  have hlen:=r.length
  refine ⟨"list",_,slot_list_getitem.lookup,ht.isList.typeIs,?_⟩
  refine wpAny_getItem_list_slice ht.isList hs pl pu .none (by simp) ?_ (by rw [List.size_toArray]<;>omega)
  rw [slicePick_cut,← hlen]
  refine ⟨.ref s.heap.objs.size,_,I.laid (t':=s.toks) (o:=.lst (cutV xs lo hi)) (fun b ob q=>Heap.get?_push_of_some _ q) (Nat.le_refl _) ?_,rfl,q _ (I.hok.fresh (Nat.le_refl _))⟩
  exact ⟨Nat.le_trans (cutV_length xs lo hi) hz,_,0,(r.drop (HT.sIx xs.length 0 lo)).take (HT.sIx xs.length xs.length hi-HT.sIx xs.length 0 lo),Heap.get?_push_size _ rfl⟩
def flatV:V→Bool
  | .non=>true
  | .bl _=>true
  | .int _=>true
  | .str _=>true
  | _=>false
def eqV:V→V→Bool
  | .non,.non=>true
  | .bl a,.bl b=>a==b
  | .bl a,.int b=>(if a then 1 else 0)==b
  | .int a,.bl b=>a==(if b then 1 else 0)
  | .int a,.int b=>a==b
  | .str a,.str b=>a==b
  | _,_=>false
theorem eqAt_V {A:Around}{s:Shared}{y x:V}{u v:Value}(ry:RelV y u)(rx:RelV x v)(fy:flatV y=true)(fx:flatV x=true):SeqAt.EqAt A s u v (eqV y x):=by
  cases y with
  | non =>
    cases ry
    cases x with
    | non=>cases rx;exact SeqAt.EqAt.same _
    | bl b=>cases rx;exact SeqAt.EqAt.none_bool b
    | int b=>obtain ⟨t,rfl⟩:=rx;exact SeqAt.EqAt.none_int b t
    | str b=>obtain ⟨t,rfl⟩:=rx;exact SeqAt.EqAt.none_str b t
    | _=>exact absurd (show false=true from fx) Bool.false_ne_true
  | bl a =>
    cases ry
    cases x with
    | non=>cases rx;exact SeqAt.EqAt.bool_none a
    | bl b=>cases rx;exact SeqAt.EqAt.bool_bool a b
    | int b=>obtain ⟨t,rfl⟩:=rx;exact SeqAt.EqAt.bool_int a b t
    | str b=>obtain ⟨t,rfl⟩:=rx;exact SeqAt.EqAt.bool_str a b t
    | _=>exact absurd (show false=true from fx) Bool.false_ne_true
  | int a =>
    obtain ⟨t',rfl⟩:=ry
    cases x with
    | non=>cases rx;exact SeqAt.EqAt.int_none a t'
    | bl b=>cases rx;exact SeqAt.EqAt.int_bool a t' b
    | int b=>obtain ⟨t,rfl⟩:=rx;exact SeqAt.EqAt.int_int a t' b t
    | str b=>obtain ⟨t,rfl⟩:=rx;exact SeqAt.EqAt.int_str a t' b t
    | _=>exact absurd (show false=true from fx) Bool.false_ne_true
  | str a =>
    obtain ⟨t',rfl⟩:=ry
    cases x with
    | non=>cases rx;exact SeqAt.EqAt.str_none a t'
    | bl b=>cases rx;exact SeqAt.EqAt.str_bool a t' b
    | int b=>obtain ⟨t,rfl⟩:=rx;exact SeqAt.EqAt.str_int a t' b t
    | str b=>obtain ⟨t,rfl⟩:=rx;exact SeqAt.EqAt.str_str a t' b t
    | _=>exact absurd (show false=true from fx) Bool.false_ne_true
  | _=>exact absurd (show false=true from fy) Bool.false_ne_true
def eqU (x:V)(u:Value):Bool:=match u with
  | .none=>eqV .non x
  | .bool b=>eqV (.bl b) x
  | .int i _=>eqV (.int i) x
  | .str z _=>eqV (.str z) x
  | _=>false
theorem eqU_of {x y:V}{u:Value}(r:RelV y u)(f:flatV y=true):eqU x u=eqV y x:=by
  cases y with
  | non=>cases r;rfl
  | bl b=>cases r;rfl
  | int i=>obtain ⟨t,rfl⟩:=r;rfl
  | str z=>obtain ⟨t,rfl⟩:=r;rfl
  | _=>exact absurd (show false=true from f) Bool.false_ne_true
theorem any_eqU {x:V}:∀ {xs:List V} {us:List Value},Vals xs us→xs.all flatV=true→us.any (eqU x)=xs.any fun y=>eqV y x
  | _,_,.nil,_=>rfl
  | y::xs,u::us,.cons r t,f=>by
    rw [List.all_cons,Bool.and_eq_true] at f
    rw [List.any_cons,List.any_cons,eqU_of r f.1,any_eqU t f.2]
theorem mem_eqAt {A:Around}{s:Shared}{x:V}{v:Value}(rx:RelV x v)(fx:flatV x=true):∀ {xs:List V} {us:List Value},Vals xs us→xs.all flatV=true→∀ u∈us,SeqAt.EqAt A s u v (eqU x u)
  | _,_,.nil,_=>fun u hu=>by cases hu
  | y::xs,u::us,.cons r t,f=>fun u' hu=>by
    rw [List.all_cons,Bool.and_eq_true] at f
    rcases List.mem_cons.mp hu with rfl | hu
    · rw [eqU_of r f.1];exact eqAt_V r rx f.1 fx
    · exact mem_eqAt rx fx t f.2 u' hu
def inV (x:V)(xs:List V):Bool:=xs.any fun y=>eqV y x
def rIn (K:PySem.W.Frag)(neg:Bool):R2:=fun x y H Q=>∃ p xs,y=.ref p∧(SqL K H p xs∨SqT K H p xs)∧flatV x=true∧xs.all flatV=true∧Q (.bl (if neg then !inV x xs else inV x xs)) H
theorem op_in_seq:OpR X (compareOp .In) (rIn X.K false):=by
  intro pins s σ H x y v u Q I rx ry h
  obtain ⟨p,xs,rfl,hq,fx,fs,q⟩:=h
  cases ry
  rcases hq with hq | hq
  · obtain ⟨its,r,pl,hz⟩:=I.list hq
    refine SeqAt.in_listAt (eqU x) pl.isList (fun w hw=>mem_eqAt rx fx r fs w (by simpa using hw)) ⟨.bl _,H,I,rfl,?_⟩
    rw [show its.toArray.any (eqU x)=its.any (eqU x) by simp,any_eqU r fs]
    exact q
  · obtain ⟨its,r,pl,hz⟩:=I.tuple hq
    refine SeqAt.in_tupleAt (eqU x) pl (fun w hw=>mem_eqAt rx fx r fs w (by simpa using hw)) ⟨.bl _,H,I,rfl,?_⟩
    rw [show its.toArray.any (eqU x)=its.any (eqU x) by simp,any_eqU r fs]
    exact q
theorem op_notIn_seq:OpR X (compareOp .NotIn) (rIn X.K true):=by
  intro pins s σ H x y v u Q I rx ry h
  obtain ⟨p,xs,rfl,hq,fx,fs,q⟩:=h
  cases ry
  rcases hq with hq | hq
  · obtain ⟨its,r,pl,hz⟩:=I.list hq
    refine SeqAt.notIn_listAt (eqU x) pl.isList (fun w hw=>mem_eqAt rx fx r fs w (by simpa using hw)) ⟨.bl _,H,I,rfl,?_⟩
    rw [show its.toArray.any (eqU x)=its.any (eqU x) by simp,any_eqU r fs]
    exact q
  · obtain ⟨its,r,pl,hz⟩:=I.tuple hq
    refine SeqAt.notIn_tupleAt (eqU x) pl (fun w hw=>mem_eqAt rx fx r fs w (by simpa using hw)) ⟨.bl _,H,I,rfl,?_⟩
    rw [show its.toArray.any (eqU x)=its.any (eqU x) by simp,any_eqU r fs]
    exact q
theorem call_len_seq:CallR X (.builtin "len") (fun xs H Q=>∃ p ys,xs=[.ref p]∧(SqL X.K H p ys∨SqT X.K H p ys)∧Q (.int ys.length) H):=by
  intro pins s σ H xs us Q I r h
  obtain ⟨p,ys,rfl,hq,q⟩:=h
  obtain ⟨u,rfl,rx⟩:=vals1 r
  cases rx
  have hn:=line63
  rcases hq with hq | hq
  · obtain ⟨its,r',pl,hz⟩:=I.list hq
    have hlen:=r'.length
    exact Calls.call_len_list pl.isList (by simp only [List.size_toArray]<;>omega) ⟨.int ys.length,H,I.tok _,⟨s.toks+1,by rw [List.size_toArray,hlen]⟩,q⟩
  · obtain ⟨its,r',pl,hz⟩:=I.tuple hq
    have hlen:=r'.length
    exact len_tuple pl (by simp only [List.size_toArray]<;>omega) ⟨.int ys.length,H,I.tok _,⟨s.toks+1,by rw [List.size_toArray,hlen]⟩,q⟩
theorem call_len_str:CallR X (.builtin "len") (fun xs H Q=>∃ z,xs=[.str z]∧z.length≤sizeLine∧Q (.int z.length) H):=by
  intro pins s σ H xs us Q I r h
  obtain ⟨z,rfl,hz,q⟩:=h
  obtain ⟨u,rfl,t,rfl⟩:=vals1 r
  have hn:=line63
  exact len_str (by omega) ⟨.int z.length,H,I.tok _,⟨_,rfl⟩,q⟩
theorem call_list_of:CallR X (.type "list") (fun xs H Q=>∃ p ys,xs=[.ref p]∧(SqL X.K H p ys∨SqT X.K H p ys)∧∀ l,H l=none→Q (.ref l) (upd H l (.lst ys))):=by
  intro pins s σ H xs us Q I r h
  obtain ⟨p,ys,rfl,hq,q⟩:=h
  obtain ⟨u,rfl,rx⟩:=vals1 r
  cases rx
  have fin:∀ (its:List Value),Vals ys its→ys.length≤sizeLine→∀ (h':Heap) (c':Nat),(∀ b o',s.heap.get? b=some o'→h'.get? b=some o') →
      h'.get? s.heap.objs.size=some { cls:=.type "list",dict:=none,data:=.seq its.toArray c',slots:=#[] }→EP X pins σ Q (.ref s.heap.objs.size) { s with heap:=h' }:=fun its r' hz h' c' kp e =>
    ⟨.ref s.heap.objs.size,_,I.laid (t':=s.toks) kp (Nat.le_refl _) (show ObjOk X.prog X.w _ h' _ (.lst ys) from ⟨hz,its,c',r',e⟩),rfl,q _ (I.hok.fresh (Nat.le_refl _))⟩
  rcases hq with hq | hq
  · obtain ⟨its,r',pl,hz⟩:=I.list hq
    have hlen:=r'.length
    obtain ⟨o,ho,hc,n,hd⟩:=pl.isList
    exact call_list_seq p (.inl rfl) ho hc hd (fun h' c' kp e=>fin its r' hz h' c' kp e) (by simp only [List.size_toArray]<;>omega)
  · obtain ⟨its,r',pl,hz⟩:=I.tuple hq
    have hlen:=r'.length
    obtain ⟨o,ho,hc,n,hd⟩:=pl
    exact call_list_seq p (.inr rfl) ho hc hd (fun h' c' kp e=>fin its r' hz h' c' kp e) (by simp only [List.size_toArray]<;>omega)
def tyV (K:PySem.W.Frag)(T:String)(x:V)(H:Hp):Prop:=match x with
  | .str _=>T="str"
  | .int _=>T="int"
  | .ref p=>(T="list"∧∃ xs,SqL K H p xs)∨(T="tuple"∧∃ o,K.lookup p=some o∧o.cls=.type "tuple"∧o.dict=none) ∨
      (T="dict"∧((∃ kvs,H p=some (.dK kvs))∨∃ kvs,H p=some (.dT kvs)))∨(T="set"∧∃ S n,H p=some (.set S n))
  | _=>False
theorem tyV_is {pins:List (Addr × Obj)} {σ:St} {H:Hp} {s:Shared} {T:String} {x:V} {v:Value} (I:Inv X pins σ H s) (r:RelV x v) (ty:tyV X.K T x H) :
    s.TypeIs v T∧∀ a,v=.ref a→∃ ob,s.heap.get? a=some ob∧ob.dict=none:=by
  cases x with
  | str z =>
    obtain ⟨t,rfl⟩:=r
    cases (show T="str" from ty)
    exact ⟨typeIs_str s z t,fun _ e=>nomatch e⟩
  | int i =>
    obtain ⟨t,rfl⟩:=r
    cases (show T="int" from ty)
    exact ⟨typeIs_int s i t,fun _ e=>nomatch e⟩
  | ref p =>
    cases r
    rcases ty with ⟨rfl,xs,hq⟩ | ⟨rfl,o,hk,hc,hd⟩ | ⟨rfl,hk⟩ | ⟨rfl,S,n,hk⟩
    · obtain ⟨its,_,pl,_⟩:=I.list hq
      refine ⟨pl.isList.typeIs,fun a e=>?_⟩
      cases e
      obtain ⟨o,n,e,c,hd,_⟩:=pl
      exact ⟨o,e,hd⟩
    · refine ⟨⟨o,I.kIn p o hk,hc⟩,fun a e=>?_⟩
      cases e
      exact ⟨o,I.kIn _ o hk,hd⟩
    · have z:∃ o,s.heap.get? p=some o∧o.ExactDict:=by
        rcases hk with ⟨kvs,hk⟩ | ⟨kvs,hk⟩
        · obtain ⟨_,_,_,_,o,_,_,e,ex,_⟩:=I.hok p _ hk
          exact ⟨o,e,ex⟩
        · obtain ⟨_,_,_,_,o,_,_,e,ex,_⟩:=I.hok p _ hk
          exact ⟨o,e,ex⟩
      obtain ⟨o,e,ex⟩:=z
      refine ⟨⟨o,e,ex.1⟩,fun a e2=>?_⟩
      cases e2
      exact ⟨o,e,ex.2.1⟩
    · obtain ⟨o,_,_,_,e,ex,_⟩:=I.hok p _ hk
      refine ⟨⟨o,e,ex.1⟩,fun a e2=>?_⟩
      cases e2
      exact ⟨o,e,ex.2.1⟩
  | _=>exact False.elim ty
def tBM0 (K:PySem.W.Frag)(T:String)(r:V→List V→Hp→VK→Prop)(to:TE):TE:=fun σ H Q=>to σ H fun x H1=>tyV K T x H1∧r x [] H1 Q
def tBM (K:PySem.W.Frag)(T:String)(r:V→List V→Hp→VK→Prop)(to:TE)(t:TA):TE:=fun σ H Q=>to σ H fun x H1=>tyV K T x H1∧t σ H1 fun xs H2=>r x xs H2 Q
variable {o e:Expr}{es:List Expr}{to:TE}{t:TA}{name:Str}{apos cpos:Pos}{T id:String}{r:V→List V→Hp→VK→Prop}
theorem pe_bm0 (pa:PlainAttrs T)(slot:Slot T name id)(hty:typeOf (.builtin id)=pure (.type "method_descriptor"))(hm:MtR X id r)(ho:PE X o to)
    (hbase:attributeBase o name X.env (eval o X.env)=eval o X.env:=by rfl) (hline:(apos.endLine==cpos.line)=true:=by rfl):PE X (.Call (.Attribute o name apos) [] [] cpos) (tBM0 X.K T r to):=by
  intro pins s σ H Q I h
  refine wpAny_Call_method0_late hbase hline (thn (ho pins s σ H _ I h) fun v s1 ⟨x,H1,I1,r1,ty,q1⟩=>?_)
  obtain ⟨h1,h2⟩:=tyV_is I1 r1 ty
  exact ⟨T,id,pa,slot,hty,h1,h2,Calls.callWith_builtin rfl (PySem.evalArgs_none (hm pins s1 σ H1 x [] v [] Q I1 r1 .nil q1))⟩
theorem pe_bm (pa:PlainAttrs T)(slot:Slot T name id)(hty:typeOf (.builtin id)=pure (.type "method_descriptor"))(hm:MtR X id r)(ho:PE X o to)(ha:PA X (e::es) t)
    (hbase:attributeBase o name X.env (eval o X.env)=eval o X.env:=by rfl)
    (hfew:((backTo cpos (starEach (e::es) X.env)).all (fun x=>!x.1)&&(backToKw cpos (keywordEach [] X.env)).all (fun x=>x.1.isSome)
      && decide ((e::es).length+([]:List Keyword).length+(if ([]:List Keyword).isEmpty then 0 else 1)<30))=true:=by rfl)
    (hline:(apos.endLine==cpos.line)=true:=by rfl) (hs:starEach (e::es) X.env=(false,eval e X.env)::starEach es X.env:=by rfl) (hplain:(backTo cpos (starEach es X.env)).any (·.1)=false:=by rfl) :
    PE X (.Call (.Attribute o name apos) (e::es) [] cpos) (tBM X.K T r to t):=by
  intro pins s σ H Q I h
  refine wpAny_Call_method_late hbase hfew hline rfl (thn (ho pins s σ H _ I h) fun v s1 ⟨x,H1,I1,r1,ty,q1⟩=>?_)
  obtain ⟨h1,h2⟩:=tyV_is I1 r1 ty
  refine ⟨T,id,pa,slot,hty,h1,h2,?_⟩
  have hA:=ha cpos pins s1 σ H1 _ I1 q1
  rw [hs] at hA ⊢
  refine Calls.callWith_builtin (by show (false||(backTo cpos (starEach es X.env)).any (·.1))=false;rw [hplain]<;>rfl) (Calls.evalArgs_plain ?_)
  exact thn hA fun us s2 ⟨vs,H2,I2,r2,q2⟩=>hm pins s2 σ H2 x vs v us Q I2 r1 r2 q2
end
end L2
namespace L2
open PySem PySem.Spec PyProof.Rows
def MtM (X:Cx) (id:String) (r:V→List V→Hp→VK→Prop):Prop :=
  ∀ (pins:List (Addr × Obj)) (s:Shared) (σ:St) (H:Hp) (x:V) (xs:List V) (v:Value) (us:List Value) (Q:VK),Inv X pins σ H s→RelV x v→Vals xs us→r x xs H Q →
    wpAny (model X.prog X.w) X.A (call (.builtin id) (v::us)) (EP X pins σ Q) X.xe s
theorem Vals.one:∀ {x:V} {us:List Value},Vals [x] us→∃ u,us=[u]∧RelV x u
  | _,_,.cons r .nil=>⟨_,rfl,r⟩
theorem Vals.two:∀ {x y:V} {us:List Value},Vals [x,y] us→∃ u v,us=[u,v]∧RelV x u∧RelV y v:=by
  intro x y us h
  cases h with
  | cons r t =>
    cases t with
    | cons q t2 =>
      cases t2
      exact ⟨_,_,rfl,r,q⟩
theorem Vals.zero:∀ {us:List Value},Vals [] us→us=[]
  | _,.nil=>rfl
theorem Vals.rep {xs:List V}{us:List Value}(h:Vals xs us):∀ k:Nat,Vals (List.replicate k xs).flatten (List.replicate k us).flatten
  | 0=>.nil
  | k+1=>by
    rw [List.replicate_succ,List.replicate_succ,List.flatten_cons,List.flatten_cons]
    exact Vals.append h (Vals.rep h k)
theorem foldl_rep (its:List Value):∀ (k:Nat) (acc:List Value),
    List.foldl (fun x1 x2=>x1++x2) acc.toArray (List.replicate k its.toArray)=(acc++(List.replicate k its).flatten).toArray
  | 0,acc=>by simp
  | k + 1,acc=>by
    have e:acc.toArray++its.toArray=(acc++its).toArray:=by simp
    have e2:(acc++its)++(List.replicate k its).flatten=acc++(List.replicate (k+1) its).flatten:=by
      rw [List.replicate_succ,List.flatten_cons,List.append_assoc]
    rw [← e2,← foldl_rep its k (acc++its),← e,List.replicate_succ,List.foldl_cons]
section
variable {X:Cx}{pins:List (Addr × Obj)}{σ:St}{H:Hp}{s:Shared}{l b:Addr}{xs ys zs:List V}
theorem Inv.lset {its its':List Value}{n:Nat}{f:Array Value→Array Value}{t':Nat}(I:Inv X pins σ H s)(hH:H l=some (.lst xs))
    (e:s.heap.get? l=some { cls:=.type "list",data:=.seq its.toArray n }) (hf:f its.toArray=its'.toArray) (hv:Vals ys its') (hz:ys.length≤sizeLine) :
    Inv X pins σ (upd H l (.lst ys)) { s with heap:=s.heap.update l (Obj.mapSeq f),toks:=t' }:=by
  have q:=PySem.IsL.update e f
  rw [hf] at q
  refine I.write (x:=l) (e:=l) (by rw [hH];exact trivial) (.inl rfl) (fun b' u hb hu=>(Heap.get?_update_other s.heap (Obj.mapSeq f) (Ne.symm hb)).trans hu) ⟨_,q⟩ ?_
  exact ⟨hz,its',_,hv,q⟩
theorem Inv.lnew {its:List Value}{t':Nat}(I:Inv X pins σ H s)(hv:Vals ys its)(hz:ys.length≤sizeLine) :
    Inv X pins σ (upd H s.heap.objs.size (.lst ys)) { s with heap:=s.heap.push { cls:=.type "list",data:=.seq its.toArray },toks:=t' } :=
  I.laid (fun _ _ q=>Heap.get?_push_of_some _ q) (Nat.le_refl _) ⟨hz,its,0,hv,Heap.get?_push_size _ rfl⟩
theorem Inv.fresh (I:Inv X pins σ H s):H s.heap.objs.size=none:=I.hok.fresh (Nat.le_refl _)
theorem Inv.lstM (I:Inv X pins σ H s)(hH:H l=some (.lst xs)):xs.length≤sizeLine∧∃ (its:List Value) (n:Nat),Vals xs its∧xs.length=its.length∧s.heap.get? l=some { cls:=.type "list",data:=.seq its.toArray n }:=by
  obtain ⟨z,its,n,r,e⟩:=I.hok l _ hH
  exact ⟨z,its,n,r,r.length,e⟩
theorem notLongL {n:Nat}(h:n≤sizeLine):Builtin.List.listTooLong n=false:=by
  unfold Builtin.List.listTooLong
  exact decide_eq_false (by omega)
end
section
variable {X:Cx}
def rAppend:V→List V→Hp→VK→Prop:=fun x vs H Q=>∃ l xs y,x=.ref l∧vs=[y]∧H l=some (.lst xs)∧xs.length<sizeLine∧Q .non (upd H l (.lst (xs++[y])))
theorem mt_append:MtM X "list.append" rAppend:=by
  intro pins s σ H x vs v us Q I rx rv h
  obtain ⟨l,xs,y,rfl,rfl,hH,hz,q⟩:=h
  cases rx
  obtain ⟨u,rfl,ru⟩:=rv.one
  obtain ⟨z,its,n,r,hl,e⟩:=I.lstM hH
  refine call_meets F.slot_list_append ⟨_,e,rfl⟩ F.entry_list_append (F.args_list_append_2 _ _) (PySem.list_append l its.toArray n u (by rw [List.size_toArray];omega)) ⟨e,?_⟩
  refine ⟨.non,_,I.lset (its':=its++[u]) hH e (by simp) (r.append (.cons ru .nil)) ?_,rfl,q⟩
  rw [List.length_append,List.length_singleton]
  omega
def rExtend:V→List V→Hp→VK→Prop:=fun x vs H Q=>∃ l b xs zs,x=.ref l∧vs=[.ref b]∧H l=some (.lst xs)∧H b=some (.lst zs)∧xs.length+zs.length≤sizeLine∧Q .non (upd H l (.lst (xs++zs)))
theorem mt_extend:MtM X "list.extend" rExtend:=by
  intro pins s σ H x vs v us Q I rx rv h
  obtain ⟨l,b,xs,zs,rfl,rfl,hH,hB,hz,q⟩:=h
  cases rx
  obtain ⟨u,rfl,ru⟩:=rv.one
  cases ru
  obtain ⟨z,its,n,r,hl,e⟩:=I.lstM hH
  obtain ⟨z2,its2,n2,r2,hl2,e2⟩:=I.lstM hB
  have hsz:its.toArray.size+its2.toArray.size≤sizeLine:=by rw [List.size_toArray,List.size_toArray];omega
  have hlong:¬ (!its.toArray.isEmpty&&Builtin.List.listTooLong (its.toArray.size+its2.toArray.size))=true:=by
    rw [notLongL hsz,Bool.and_false]
    exact Bool.false_ne_true
  refine call_meets F.slot_list_extend ⟨_,e,rfl⟩ F.entry_list_extend (F.args_list_extend_2 _ _)
    (AutoSeq1.list_extend_list_list_0 l its.toArray n b its2.toArray n2 hlong (by rw [List.size_toArray];omega) (by omega)) ⟨e,e2,?_⟩
  refine ⟨.non,_,I.lset (its':=its++its2) hH e (by simp) (r.append r2) ?_,rfl,q⟩
  rw [List.length_append]
  omega
def rClear:V→List V→Hp→VK→Prop:=fun x vs H Q=>∃ l xs,x=.ref l∧vs=[]∧H l=some (.lst xs)∧Q .non (upd H l (.lst []))
theorem mt_clear:MtM X "list.clear" rClear:=by
  intro pins s σ H x vs v us Q I rx rv h
  obtain ⟨l,xs,rfl,rfl,hH,q⟩:=h
  cases rx
  have hus:=rv.zero
  subst hus
  obtain ⟨z,its,n,r,hl,e⟩:=I.lstM hH
  refine call_meets F.slot_list_clear ⟨_,e,rfl⟩ F.entry_list_clear (F.args_list_clear_1 _) (AutoSeq1.list_clear_list_0 l its.toArray n (by rw [List.size_toArray];omega)) ⟨e,?_⟩
  exact ⟨.non,_,I.lset (its':=[]) (ys:=[]) hH e rfl .nil (Nat.zero_le _),rfl,q⟩
def rCat:R2:=fun x y H Q=>∃ l b xs zs,x=.ref l∧y=.ref b∧H l=some (.lst xs)∧H b=some (.lst zs)∧xs.length+zs.length≤sizeLine∧∀ p,H p=none→Q (.ref p) (upd H p (.lst (xs++zs)))
theorem op_cat:OpR X (binaryOp .Add) rCat:=by
  intro pins s σ H x y v u Q I rx ry h
  obtain ⟨l,b,xs,zs,rfl,rfl,hH,hB,hz,q⟩:=h
  cases rx
  cases ry
  obtain ⟨z,its,n,r,hl,e⟩:=I.lstM hH
  obtain ⟨z2,its2,n2,r2,hl2,e2⟩:=I.lstM hB
  refine PySem.P.add_list e e2 ?_ (by rw [List.size_toArray,List.size_toArray];omega)
  have ea:its.toArray++its2.toArray=(its++its2).toArray:=by simp
  rw [ea]
  exact ⟨.ref _,_,I.lnew (t':=s.toks) (r.append r2) (by rw [List.length_append];omega),rfl,q _ I.fresh⟩
def rRep:R2:=fun x y H Q=>∃ l k xs,x=.ref l∧y=.int k∧H l=some (.lst xs)∧-(2^63)≤k∧k<2^63∧xs.length*k.toNat≤sizeLine ∧
  ∀ p,H p=none→Q (.ref p) (upd H p (.lst (List.replicate k.toNat xs).flatten))
theorem len_rep {α:Type}(xs:List α)(k:Nat):(List.replicate k xs).flatten.length=k*xs.length:=by
  induction k with
  | zero=>simp
  | succ k ih=>rw [List.replicate_succ,List.flatten_cons,List.length_append,ih,Nat.succ_mul,Nat.add_comm]
theorem op_rep:OpR X (binaryOp .Mult) rRep:=by
  intro pins s σ H x y v u Q I rx ry h
  obtain ⟨l,k,xs,rfl,rfl,hH,h1,h2,hz,q⟩:=h
  cases rx
  obtain ⟨t,rfl⟩:=ry
  obtain ⟨z,its,n,r,hl,e⟩:=I.lstM hH
  have hlen:its.toArray.size*k.toNat≤sizeLine:=by rw [List.size_toArray,← hl];exact hz
  have hcap:¬ its.toArray.size*k.toNat > (2^63-1)/8:=by
    have:(sizeLine:Nat)≤(2^63-1)/8:=by decide
    omega
  have hfit:¬ (!Builtin.List.listFitsIndex k)=true:=by
    rw [fitsIndex_both h1 h2]
    exact Bool.false_ne_true
  have hlong:¬ Builtin.List.listTooLong (its.toArray.size*k.toNat)=true:=by
    rw [notLongL hlen]
    exact Bool.false_ne_true
  have hnew:List.foldl (fun x1 x2=>x1++x2) #[] (List.replicate (if its.toArray.isEmpty=true then 0 else k.toNat) its.toArray)=(List.replicate k.toNat its).flatten.toArray:=by
    have f0:∀ m:Nat,List.foldl (fun x1 x2=>x1++x2) #[] (List.replicate m its.toArray)=(List.replicate m its).flatten.toArray:=fun m=>by
      have:=foldl_rep its m []
      rw [List.nil_append] at this
      exact this
    rw [f0]
    cases its with
    | nil=>simp
    | cons a r'=>rw [if_neg (by simp)]
  refine wpAny_binaryOp_repeat_ref (T:="list") (U:="int") (by decide) ⟨_,e,rfl⟩ (fun s'=>typeIs_int s' k t) noFill_list_mul F.fills_int_mul F.slot_int_rmul repeat_list F.slot_int_index.lookup
    (call_meets F.slot_int_rmul (typeIs_int s k t) F.entry_int_rmul (F.args_int_rmul_2 _ _) (int___rmul___int_list k t l its.toArray n)
      ⟨e,rfl,⟨_,e,rfl⟩,call_meets F.slot_list_mul ⟨_,e,rfl⟩ F.entry_list_mul (F.args_list_mul_2 _ _) (AutoListH.list___mul___list_int_3 l its.toArray n k t hfit hcap hlong) ⟨e,?_⟩⟩)
  rw [hnew]
  exact ⟨.ref _,_,I.lnew (t':=s.toks) (r.rep k.toNat) (by rw [len_rep,Nat.mul_comm];exact hz),rfl,q _ I.fresh⟩
end
section
variable {prog:Program}{w:World}{A:Around}{E:Value→Shared→Prop}{s:Shared}
set_option maxRecDepth 100000 in
end
section
variable {X:Cx}
end
end L2
namespace Att
open PySem PySem.W PySem.Calls PyProof.Rows
theorem ints_of_wellAll {P:Params}{h:Heap}:∀ (ns:List Int) (vs:List Value),WellAll P h vs (ns.map WData.int)→IntsAre vs ns:=by
  intro ns
  induction ns with
  | nil =>
    intro vs w
    rw [List.map_nil] at w
    cases w
    exact .nil
  | cons n ns ih =>
    intro vs w
    rw [List.map_cons] at w
    cases w with
    | cons a b =>
      cases a
      exact .cons _ _ (ih _ b)
theorem script_of {l:OpenLaw}{n:Nat}(hn:l.most=some n){P:Params}{h:Heap}{args:List WData}{vals:List Value}
    (hpre:l.row.toRowW.claim.pre args=true) (hwl:WellAll P h vals args) :
    ∃ a vs ns,vals=[Value.ref a]∧args=[WData.list (ns.map WData.int)]∧h.get? a=some { cls:=.type "list",data:=.seq vs.toArray }∧IntsAre vs ns∧ns.length≤n:=by
  have hsh:WShape.hasAll [] args [.list .int]=true:=(pre_splitW hpre).1
  have hc:l.pre.holds [] { args:=args }=true:=(pre_splitW hpre).2
  obtain ⟨d,r,rfl,h1,h2⟩:=hasAllW_cons hsh
  obtain rfl:=hasAllW_nil h2
  obtain ⟨xs,rfl,h3⟩:=hasW_list h1
  obtain ⟨ns,rfl⟩:=items_int h3
  have hlen:ns.length≤n:=by
    unfold OpenLaw.pre at hc
    have h4:(WTm.not (.lt (.lit (.int (n:Int))) (.len (.arg 0)))).holds [] { args:=[.list (ns.map .int)] }=true:=by
      have h4:=(holds_andW hc).1
      rw [hn] at h4
      exact h4
    have h5:=condW_of h4 (w_not (w_lt w_lit (w_len_list (w_arg rfl))))
    rw [List.length_map] at h5
    refine Nat.le_of_not_lt fun q=>?_
    have q':(n:Int)<((ns.length:Nat):Int):=by omega
    first
      | (rw [decide_eq_true q'] at h5;exact absurd h5 (by decide))
      | (simp at h5;omega)
  cases hwl with
  | cons w1 w2 =>
    cases w2
    cases w1 with
    | list ho hall=>exact ⟨_,_,ns,rfl,rfl,ho,ints_of_wellAll ns _ hall,hlen⟩
theorem post_true (l:OpenLaw)(args:List WData):l.row.toRowW.claim.post args (.bool true) args=true :=
  postW_of (r:=l.row.toRowW) (X:=(true==true))
    (show WShape.has [] (.bool true) .bool=true by first | rfl | decide | simp [WShape.has,WShape.arms,WShape.armsAll])
    (show (WTm.eq .res (.lit (.bool true))).value [] { args:=args,res:=some (.bool true),after:=args }=some (.bool (true==true)) from w_eq_bool (w_res rfl) w_lit) rfl
theorem attach_call {l:OpenLaw}{n:Nat}{q:Program}{loose:List Str}{XP:(Str→Option Value)→Heap→Prop}{YP:World→Heap→Prop}{d:DefRec}
    (hn:l.most=some n) (hdf:d.params.defaults=[])
    (call:∀ (w:World) (s₀ s₁:Shared) (mg mb:Str→Option Value) (fa:Addr) (o:Obj) (pm cd doc:Value) (a:Addr) (vs:List Value) (ns:List Int),
      Ground q loose [] XP w s₀ mg mb s₁.heap→YP w s₁.heap →
      s₁.heap.get? fa=some o→o.data=.func (docDef d.name d.params d.body d.scope pm cd doc)→s₁.heap.CodeRec cd d.name→mg d.name=some (.ref fa) →
      s₁.heap.get? a=some { cls:=.type "list",data:=.seq vs.toArray }→IntsAre vs ns→ns.length≤n→s₁.gens=#[] →
      codeAny (model l.prog w) callerA (.call (.ref fa) ⟨[.ref a],[]⟩) (fun r s'=>r=.ok (.ret (.bool true))∧OldK s₁.heap s'.heap∧s'.os=s₁.os∧AllBare s'.gens) s₁) :
    WalkO q loose XP YP l.row.toRowW d [] (fun f vs=>PySem.call f vs):=by
  intro w s₀ s₁ mg mb G Y fa o pm cd doc dV kV ho hd hcd hD hmg hg args vals as hpre hlay hrd hwl hlo
  obtain rfl:dV=.none:=Dflts.none hD hdf
  obtain rfl:kV=.none:=Dflts.noKw hD
  obtain ⟨a,vs,ns,rfl,rfl,hobj,hints,hlen⟩:=script_of hn hpre hwl
  refine enter_call (codeAny_mono (call w s₀ s₁ mg mb fa o pm cd doc a vs ns G Y ho (fd_plain hd) hcd hmg hobj hints hlen hg) fun r s' hq=>?_)
  obtain ⟨rfl,h2,h3,h4⟩:=hq
  exact ⟨.inl ⟨.bool true,.bool true,[],rfl,fun _=>rfl,.bool true,post_true l _,fun _=>⟨List.Pairwise.nil,fun _ hm=>(nomatch hm)⟩⟩,h2,h3,h4⟩
section
variable {prog:Program}{w:World}{A:Around}{E:Value→Shared→Prop}{s:Shared}{K:Frag}
end
end Att
namespace L2
open PySem PySem.Spec PyProof.Rows
theorem vals_ints:∀ {vs:List Value} {ns:List Int},IntsAre vs ns→Vals (ns.map V.int) vs
  | _,_,.nil=>.nil
  | _,_,.cons n t h=>.cons ⟨t,rfl⟩ (vals_ints h)
def Only (H:Hp):Prop:=∀ b,H b=none∨∃ o xs,H b=some (.frz o (.lst xs))
theorem law_call {P:Program} {w:World} {K:PySem.W.Frag} {mg mb:Str→Option Value} {CX:CXT} {k:Nat} {fa a:Addr} {fd:FuncData} {x:Str} {sp:Sp} {s₁:Shared} {vs:List Value} {ns:List Int}
    (KX:K.In s₁.heap) (hns:s₁.heap.Ns mainGlobals mg) (hb:s₁.heap.Ns builtinsNs mb) (hbb:∀ x:Str,x≠"__name__"→mb x=bootBuiltins x) (hlim:s₁.heap.NoLimit) (hg:s₁.gens=#[])
    (ha:s₁.heap.get? a=some { cls:=.type "list",data:=.seq vs.toArray }) (hi:IntsAre vs ns) (hl:ns.length≤sizeLine) (hr:Room k callerA)
    (F:∀ base:Heap,K.In base→base.Ns mainGlobals mg→FnOk P w K mg base CX k fa fd [x] sp) (hbind:∀ (s:Shared) (u:Value),BindsTo s fd ⟨[u],[]⟩ [(x,u)])
    (hsp:∀ H:Hp,Only H→SqL K H a (ns.map V.int)→sp [.ref a] H (fun v _=>v=.bl true) fun _ _ _=>False)
    (hCX:∀ H e s',CX [] H s₁ (fun _ _ _=>False) e s'→False) :
    codeAny (model P w) callerA (.call (.ref fa) ⟨[.ref a],[]⟩) (fun r s'=>r=.ok (.ret (.bool true))∧OldK s₁.heap s'.heap∧s'.os=s₁.os∧AllBare s'.gens) s₁:=by
  have rv:=vals_ints hi
  have lenV:=hi.length
  have core : ∀ H:Hp,Only H→SqL K H a (ns.map V.int)→HOk P w H s₁.heap→(∀ b,H b≠none→b=a)→(H a≠none→K.lookup a=none) →
      codeAny (model P w) callerA (.call (.ref fa) ⟨[.ref a],[]⟩) (fun r s'=>r=.ok (.ret (.bool true))∧OldK s₁.heap s'.heap∧s'.os=s₁.os∧AllBare s'.gens) s₁:=by
    intro H hO hS hok hA hK
    have base_of:∀ {b:Addr} {o:Obj},s₁.heap.get? b=some o→H b=none→(hidT s₁.heap H).get? b=some o:=fun e n=>hidT_get e n
    have noA:∀ {b:Addr} {o:Obj} {es:Array DictEntry} {ep:Nat},s₁.heap.get? b=some o→o.data=.dict es ep→H b=none:=fun {b o es ep} e d=>by
      cases q:H b with
      | none=>rfl
      | some u =>
        have e':b=a:=hA b (by rw [q];simp)
        subst e'
        rw [ha] at e;cases e
        have d':Data.seq vs.toArray _=Data.dict es ep:=d
        cases d'
    have nsK:∀ {b:Addr} {m:Str→Option Value},s₁.heap.Ns b m→(hidT s₁.heap H).Ns b m:=fun {b m} ⟨o,es,ep,e,d,r⟩=>⟨o,es,ep,base_of e (noA e d),d,r⟩
    have hKb:K.In (hidT s₁.heap H):=fun b o e=>base_of (KX b o e) (by
      cases q:H b with
      | none=>rfl
      | some u =>
        have e':b=a:=hA b (by rw [q];simp)
        subst e'
        rw [hK (by rw [q];simp)] at e;cases e)
    have hM:Mod K mg (hidT s₁.heap H):=⟨hKb,nsK hns,⟨mb,nsK hb,hbb⟩,let ⟨mc,h1,h2⟩:=hlim;⟨mc,nsK h1,h2⟩⟩
    have e0:Env0 P w K mg (hidT s₁.heap H) callerA [] s₁ H:=⟨rfl,hM,fun b o e=>of_hidT e,Nat.le_of_eq (hidT_size _ _),trivial,fun b hb=>absurd (show b∈([]:List Addr) from hb) (by simp),hok,.of_eq hg⟩
    refine codeAny_mono ((F _ hKb (nsK hns)).run callerA [] s₁ H ⟨[.ref a],[]⟩ [.ref a] [.ref a] _ _ hr e0 (hbind s₁ (.ref a)) (.cons rfl .nil) (hsp H hO hS)) fun r s' h=>?_
    cases r with
    | error e=>exact (hCX H e s' h).elim
    | ok fl =>
      cases fl with
      | next=>exact False.elim h
      | brk=>exact False.elim h
      | cont=>exact False.elim h
      | ret u =>
        obtain ⟨v,H',os,bare,un,hok',r',q⟩:=h
        have q':v=.bl true:=q
        subst q'
        obtain rfl:u=Value.bool true:=r'
        refine ⟨rfl,OldK.of_keep fun b o e=>?_,os,bare⟩
        cases q:H b with
        | none=>exact un.keep b o e q (by intro z;exact absurd (show b∈([]:List Addr) from z) (by simp)) (by simp)
        | some u =>
          rcases hO b with z | ⟨ob,xs,z⟩
          · rw [q] at z;cases z
          · have z2:=un.frzs b ob _ z
            obtain ⟨e1,_⟩:=hok b _ z
            obtain ⟨e2,_⟩:=hok' b _ z2
            rw [e] at e1;cases e1
            exact e2
  cases hk:K.lookup a with
  | some o =>
    have e:=KX a o hk
    rw [ha] at e
    cases e
    refine core (fun _=>none) (fun _=>.inl rfl) (.inr ⟨_,vs.toArray,_,hk,rfl,rfl,rfl,by rw [List.size_toArray,lenV];exact hl,by simpa using rv⟩) (fun b u z=>by have z':(none:Option HO)=some u:=z;cases z') (fun b z=>absurd rfl z) fun z=>absurd rfl z
  | none =>
    refine core (fun b=>if b=a then some (.frz { cls:=.type "list",data:=.seq vs.toArray } (.lst (ns.map V.int))) else none) (fun b=>?_) (.inl (.inr ⟨{ cls:=.type "list",data:=.seq vs.toArray },if_pos rfl⟩)) (fun b u z=>?_) (fun b z=>?_) fun _=>hk
    · by_cases hb:b=a
      · exact .inr ⟨_,_,if_pos hb⟩
      · exact .inl (if_neg hb)
    · by_cases hb:b=a
      · have z':=(if_pos hb).symm.trans z
        cases z'
        subst hb
        exact ⟨ha,by rw [List.length_map];exact hl,vs,_,rv,ha⟩
      · have z':=(if_neg hb).symm.trans z
        cases z'
    · by_cases hb:b=a
      · exact hb
      · exact absurd (if_neg hb) z
end L2
namespace L2
open PySem PySem.Spec PyProof.Rows
abbrev KOf {K:PySem.W.Frag}{h:Heap}(_:K.In h):PySem.W.Frag:=K
theorem walk_of {l:PySem.W.OpenLaw} {n k:Nat} {q:Program} {loose:List Str} {XP:(Str→Option Value)→Heap→Prop} {YP:World→Heap→Prop} {d:DefRec} {K:Params→PySem.W.Frag} {CX:World→CXT} {sp:World→Sp} {x:Str}
    (hn:l.most=some n) (hn2:n≤sizeLine) (hdf:d.params.defaults=[]) (hr:Room k callerA)
    (hY:∀ (w:World) (h:Heap),YP w h→(K w.params).In h)
    (F:∀ (w:World) (mg:Str→Option Value) (fa:Addr) (h:Heap),(K w.params).In h→h.Ns mainGlobals mg→mg d.name=some (.ref fa) →
      ∃ fd:FuncData,(∀ (s:Shared) (u:Value),BindsTo s fd ⟨[u],[]⟩ [(x,u)]) ∧
        ∀ base:Heap,(K w.params).In base→base.Ns mainGlobals mg→FnOk l.prog w (K w.params) mg base (CX w) k fa fd [x] (sp w))
    (hsp:∀ (w:World) (H:Hp) (a:Addr) (ns:List Int),ns.length≤n→Only H→SqL (K w.params) H a (ns.map V.int)→sp w [.ref a] H (fun v _=>v=.bl true) fun _ _ _=>False)
    (hCX:∀ (w:World) (H:Hp) (s:Shared) (e:Value) (s':Shared),CX w [] H s (fun _ _ _=>False) e s'→False) :
    PySem.W.WalkO q loose XP YP l.row.toRowW d [] (fun f vs=>PySem.call f vs):=by
  refine Att.attach_call hn hdf fun w s₀ s₁ mg mb fa o pm cd doc a vs ns G Y ho hd hcd hmg hobj hints hlen hg=>?_
  have KX:=hY w _ Y
  obtain ⟨fd,hb,hF⟩:=F w mg fa _ KX G.T.g hmg
  exact law_call KX G.T.g G.T.b G.T.builtins G.T.nolimit hg hobj hints (Nat.le_trans hlen hn2) hr hF hb (fun H hO hS=>hsp w H a ns hlen hO hS) fun H e s'=>hCX w H s₁ e s'
end L2
namespace L2
open PySem PySem.Spec PyProof.Rows
def inClass (s:Stmt)(j:Nat):Stmt:=match s with
  | .ClassDef _ _ _ body _ _ _ _ _ _ _=>body.getD j (.Pass ⟨0,0,0,0⟩)
  | _=>.Pass ⟨0,0,0,0⟩
def defArgs (s:Stmt):Arguments:=match s with
  | .FunctionDef _ a _ _ _ _ _ _ _ _=>a
  | _=>{ posonlyargs:=[],args:=[],vararg:=none,kwonlyargs:=[],kw_defaults:=[],kwarg:=none,defaults:=[] }
def defBody (s:Stmt):List Stmt:=match s with
  | .FunctionDef _ _ b _ _ _ _ _ _ _=>b
  | _=>[]
def defScope (s:Stmt):Scope:=match s with
  | .FunctionDef _ _ _ _ _ _ sc _ _ _=>sc
  | _=>{ kind:=.function,names:=[],isGenerator:=false,isCoroutine:=false }
abbrev CX0:CXT:=fun _ _ _ _ _ _=>False
abbrev E0:XK:=fun _ _ _=>False
theorem pass0 {X:Cx}:Passes CX0 X E0:=fun _ _ _ _ _ _ _ h=>h.elim
structure Fun (K:PySem.W.Frag)(x qual:Str)(st:Stmt)(f:Addr)(fd:FuncData):Prop where
  ex:∃ (oc:Value) (od:Option Addr) (kV doc pm:Value) (an:Option Addr) (cdv ct:Value) (osl:Array (Option Value)),
    fd=PySem.W.fnOf x qual (defArgs st) (defBody st) (defScope st) .none kV doc pm an cdv ct∧K.lookup f=some ⟨oc,od,.func fd,osl⟩∧PySem.W.codeIn K cdv qual=true
  kp:PySem.W.keepIn K (.ref f)=true
section
variable {P:Program}{w:World}{K:PySem.W.Frag}{mg:Str→Option Value}{base:Heap}
theorem Fun.ok {x qual:Str}{st:Stmt}{f:Addr}{fd:FuncData}{N ps:List Str}{k:Nat}{sp:Sp}(F:Fun K x qual st f fd)(S:FnScope N ps (defScope st))(len:∀ vs H Q E,sp vs H Q E→vs.length=ps.length)
    (hbody:∀ (cdv:Value) (A:Around) (outer:List Env) (s:Shared) (H:Hp) (vs:List V) (Q:VK) (E:XK),Room k (A.deeper (envOfC qual (defScope st) s.heap.objs.size f cdv))→sp vs H Q E →
      ∃ t,PSs (cxOf CX0 P w K mg base N qual (defScope st) f cdv A outer s H E).nox (defBody st) t∧t { nx:=fun _ H'=>Q .non H',rt:=Q } (start N vs) H):FnOk P w K mg base CX0 (k+1) f fd ps sp:=by
  obtain ⟨oc,od,kV,doc,pm,an,cdv,ct,osl,rfl,lk,hcd⟩:=F.ex
  refine fn_of lk hcd S len fun A outer s H vs Q E hr hsp=>?_
  obtain ⟨t,h,q⟩:=hbody cdv A outer s H vs Q E hr hsp
  exact ⟨t,h.nox,q⟩
theorem Fun.binds {x qual:Str}{st:Stmt}{f:Addr}{fd:FuncData}{ps:List Str}(F:Fun K x qual st f fd)
    (h:∀ (kV doc pm:Value) (an:Option Addr) (cdv ct:Value) (us:List Value),us.length=ps.length→bindArgs (PySem.W.fnOf x qual (defArgs st) (defBody st) (defScope st) .none kV doc pm an cdv ct) ⟨us,[]⟩=pure (ps.zip us)):Binds K fd ps []:=by
  obtain ⟨oc,od,kV,doc,pm,an,cdv,ct,osl,rfl,lk,hcd⟩:=F.ex
  exact .all (h kV doc pm an cdv ct)
theorem fun_mk {x qual:Str}{st:Stmt}{f:Addr}{oc:Value}{od an:Option Addr}{osl:Array (Option Value)}{kV doc pm cdv ct:Value}(l:K.lookup f=some ⟨oc,od,.func (PySem.W.fnOf x qual (defArgs st) (defBody st) (defScope st) .none kV doc pm an cdv ct),osl⟩)
    (c:PySem.W.codeIn K cdv qual=true) (k:PySem.W.keepIn K (.ref f)=true):Fun K x qual st f (PySem.W.fnOf x qual (defArgs st) (defBody st) (defScope st) .none kV doc pm an cdv ct):=⟨⟨oc,od,kV,doc,pm,an,cdv,ct,osl,rfl,l,c⟩,k⟩
end
section
variable {X:Cx}
theorem pv (i:Nat){x:Str}{pos:Pos}(hN:X.N[i]?=some x:=by rfl)(hv:Vis X.env.scope x:=by first | exact Or.inl rfl | exact Or.inr (Or.inl rfl) | exact Or.inr (Or.inr rfl))(hd:(x==("__debug__":Str))=false:=by decide)
    (hcd:(x==("__classdict__":Str))=false:=by decide):PE X (.Name x pos) (tVar i):=pe_var hN hv hd hcd
end
def Same (H H':Hp):Prop:=∀ b o,H b=some o→H' b=some o
theorem Same.refl (H:Hp):Same H H:=fun _ _ h=>h
theorem Same.trans {H H1 H2:Hp}(a:Same H H1)(b:Same H1 H2):Same H H2:=fun c o h=>b c o (a c o h)
theorem Same.seq {K:PySem.W.Frag}{H H':Hp}{a:Addr}{xs:List V}(e:Same H H')(h:SqL K H a xs):SqL K H' a xs:=by
  rcases h with (h | ⟨o,h⟩) | h
  · exact .inl (.inl (e _ _ h))
  · exact .inl (.inr ⟨o,e _ _ h⟩)
  · exact .inr h
end L2
namespace L2
open PySem PySem.Spec PyProof.Rows
section
variable {κ:Type}[DecidableEq κ]
def valV (kvs:List (κ × V))(k:κ):Option V:=(kvs.find? fun kv=>decide (kv.1=k)).map (·.2)
def putK (kvs:List (κ × V))(k:κ)(v:V):List (κ × V) :=
  if (kvs.any fun kv=>decide (kv.1=k))=true then kvs.map (fun kv=>if kv.1=k then (kv.1,v) else kv) else kvs++[(k,v)]
theorem valV_pos {p:κ × V}{r:List (κ × V)}{k:κ}(e:p.1=k):valV (p::r) k=some p.2:=by simp [valV,List.find?_cons,e]
theorem valV_neg {p:κ × V}{r:List (κ × V)}{k:κ}(e:¬ p.1=k):valV (p::r) k=valV r k:=by simp [valV,List.find?_cons,e]
theorem valV_any (k:κ):∀ kvs:List (κ × V),(kvs.any fun kv=>decide (kv.1=k))=(valV kvs k).isSome
  | []=>rfl
  | p::r=>by
    rw [List.any_cons]
    by_cases e:p.1=k
    · simp only [valV_pos e,decide_eq_true e,Bool.true_or,Option.isSome_some]
    · rw [valV_neg e,decide_eq_false e,Bool.false_or];exact valV_any k r
theorem length_putK (kvs:List (κ × V))(k:κ)(v:V):(putK kvs k v).length≤kvs.length+1:=by
  unfold putK
  split
  · rw [List.length_map];omega
  · rw [List.length_append,List.length_cons,List.length_nil];omega
theorem RelO.isSome_eq {o:Option V}{u:Option Value}(r:RelO o u):o.isSome=u.isSome:=by
  cases o with
  | none=>cases u with
    | none=>rfl
    | some _=>exact (show False from r).elim
  | some _=>cases u with
    | none=>exact (show False from r).elim
    | some _=>rfl
theorem KV.val {kvs:List (κ × V)}{vs:List (κ × Value)}(r:KV kvs vs)(k:κ):RelO (valV kvs k) (valueAt vs k):=by
  unfold KV at r
  induction r with
  | nil=>exact True.intro
  | @cons p q ps qs h t ih =>
    obtain ⟨h1,h2⟩:=h
    by_cases e:p.1=k
    · have e':q.1=k:=h1.symm.trans e
      have b:valueAt (q::qs) k=some q.2:=by simp [valueAt,List.find?_cons,e']
      rw [valV_pos e,b];exact h2
    · have e':¬ q.1=k:=fun z=>e (h1.trans z)
      have b:valueAt (q::qs) k=valueAt qs k:=by simp [valueAt,List.find?_cons,e']
      rw [valV_neg e,b];exact ih
theorem KV.any {kvs:List (κ × V)}{vs:List (κ × Value)}(r:KV kvs vs)(k:κ):(kvs.any fun kv=>decide (kv.1=k))=vs.any fun kv=>decide (kv.1=k):=by
  unfold KV at r
  induction r with
  | nil=>rfl
  | cons h t ih=>rw [List.any_cons,List.any_cons,ih,h.1]
theorem KV.repl {kvs:List (κ × V)}{vs:List (κ × Value)}(r:KV kvs vs)(k:κ){y:V}{u:Value}(ry:RelV y u) :
    KV (kvs.map fun kv=>if kv.1=k then (kv.1,y) else kv) (vs.map fun kv=>if kv.1=k then (kv.1,u) else kv):=by
  unfold KV at r ⊢
  induction r with
  | nil=>exact .nil
  | @cons p q ps qs h t ih =>
    rw [List.map_cons,List.map_cons]
    refine .cons ?_ ih
    obtain ⟨h1,h2⟩:=h
    by_cases e:p.1=k
    · rw [if_pos e,if_pos (h1.symm.trans e)];exact ⟨h1,ry⟩
    · rw [if_neg e,if_neg (fun z=>e (h1.trans z))];exact ⟨h1,h2⟩
theorem KV.put {kvs:List (κ × V)}{vs:List (κ × Value)}(r:KV kvs vs)(k:κ){y:V}{u:Value}(ry:RelV y u):KV (putK kvs k y) (stored vs k u):=by
  unfold putK stored
  rw [r.any k]
  by_cases e:(vs.any fun kv=>decide (kv.1=k))=true
  · rw [if_pos e,if_pos e];exact r.repl k ry
  · rw [if_neg e,if_neg e];exact Paired.snoc r ⟨rfl,ry⟩
theorem KV.keys {kvs:List (κ × V)}{vs:List (κ × Value)}(r:KV kvs vs):kvs.map (·.1)=vs.map (·.1):=by
  unfold KV at r
  induction r with
  | nil=>rfl
  | cons h t ih=>rw [List.map_cons,List.map_cons,ih,h.1]
theorem KV.length {kvs:List (κ × V)}{vs:List (κ × Value)}(r:KV kvs vs):kvs.length=vs.length:=Paired.length r
end
theorem kV_is {P:Program}{w:World}{k:Key}{u:Value}(r:RelV (kV k) u):(mixKind P w).is k u=true:=by
  cases k with
  | inl i=>obtain ⟨t,e⟩:=(show ∃ t,u=Value.int i t from r);subst e;exact mixKind_int P w i t
  | inr x=>obtain ⟨t,e⟩:=(show ∃ t,u=Value.str x t from r);subst e;exact mixKind_str P w x t
theorem items_are {P:Program}{w:World}:∀ {ks:List Key} {us:List Value},Vals (ks.map kV) us→ItemsAre (mixKind P w) ks us
  | [],_,r=>by rw [List.map_nil] at r;cases r;exact .nil
  | k::ks,_,r=>by
    rw [List.map_cons] at r
    cases r with
    | cons h t=>exact .cons (kV_is h) (items_are t)
abbrev KT (H:Hp):List (List Key × V)→List (List Key × Addr × Value)→Prop:=Paired fun p q=>p.1=q.1∧H q.2.1=some (.tup (p.1.map kV))∧RelV p.2 q.2.2
theorem KT.val {H:Hp}{kvs:List (List Key × V)}{xs:List (List Key × Addr × Value)}(r:KT H kvs xs)(k:List Key):RelO (valV kvs k) ((atKey xs k).map (·.2)):=by
  induction r with
  | nil=>exact True.intro
  | @cons p q ps qs h t ih =>
    obtain ⟨h1,_,h2⟩:=h
    by_cases e:p.1=k
    · have e':q.1=k:=h1.symm.trans e
      have b:atKey (q::qs) k=some q.2:=by simp [atKey,List.find?_cons,e']
      rw [valV_pos e,b];exact h2
    · have e':¬ q.1=k:=fun z=>e (h1.trans z)
      have b:atKey (q::qs) k=atKey qs k:=by simp [atKey,List.find?_cons,e']
      rw [valV_neg e,b];exact ih
theorem KT.repl {H:Hp}{kvs:List (List Key × V)}{xs:List (List Key × Addr × Value)}(r:KT H kvs xs)(k:List Key){y:V}{u:Value}(ry:RelV y u) :
    KT H (kvs.map fun kv=>if kv.1=k then (kv.1,y) else kv) (xs.map (putAt k u)):=by
  induction r with
  | nil=>exact .nil
  | @cons p q ps qs h t ih =>
    rw [List.map_cons,List.map_cons]
    refine .cons ?_ ih
    obtain ⟨h1,h2,h3⟩:=h
    unfold putAt
    by_cases e:p.1=k
    · rw [if_pos e,if_pos (h1.symm.trans e)];exact ⟨h1,h2,ry⟩
    · rw [if_neg e,if_neg (fun z=>e (h1.trans z))];exact ⟨h1,h2,h3⟩
theorem KT.put {H:Hp}{kvs:List (List Key × V)}{xs:List (List Key × Addr × Value)}(r:KT H kvs xs)(k:List Key){b:Addr}{y:V}{u:Value}(hb:H b=some (.tup (k.map kV)))(ry:RelV y u) :
    KT H (putK kvs k y) (storedH xs k b u):=by
  have e:(kvs.any fun kv=>decide (kv.1=k))=(atKey xs k).isSome:=by
    rw [valV_any,(r.val k).isSome_eq,Option.isSome_map]
  unfold putK storedH
  rw [e]
  by_cases q:(atKey xs k).isSome=true
  · rw [if_pos q,if_pos q];exact r.repl k ry
  · rw [if_neg q,if_neg q];exact Paired.snoc r ⟨rfl,hb,ry⟩
theorem KT.keeps {H H':Hp}{kvs:List (List Key × V)}{xs:List (List Key × Addr × Value)}(r:KT H kvs xs)(ht:∀ b ys,H b=some (.tup ys)→H' b=some (.tup ys)):KT H' kvs xs :=
  Paired.mapP r fun _ _ z=>⟨z.1,ht _ _ z.2.1,z.2.2⟩
section
variable {P:Program}{w:World}{H:Hp}{h:Heap}{a:Addr}
theorem rd_of {u:HO}(ok:HOk P w H h)(e:Rd H a u):ObjOk P w H h a u:=e.ok ok
theorem dk_rd {kvs:List (Key × V)}(ok:HOk P w H h)(e:Rd H a (.dK kvs)):kvs.length≤sizeLine∧(a==sysModules)=false∧∃ vs,KV kvs vs∧h.DictOf (mixKind P w) a vs :=
  show ObjOk P w H h a (.dK kvs) from rd_of ok e
theorem dk_of {kvs:List (Key × V)}(ok:HOk P w H h)(e:H a=some (.dK kvs)):kvs.length≤sizeLine∧(a==sysModules)=false∧∃ vs,KV kvs vs∧h.DictOf (mixKind P w) a vs:=dk_rd ok (.inl e)
theorem key_of {ks:List Key}(ok:HOk P w H h)(e:H a=some (.tup (ks.map kV))):(tupleKind (mixKind P w)).is h ks a:=by
  obtain ⟨_,its,r,o,h1,h2,n,h3⟩:=(show ObjOk P w H h a (.tup (ks.map kV)) from ok a _ e)
  exact ⟨o,its.toArray,n,h1,h2,h3,by simpa using items_are r⟩
theorem dt_rd {kvs:List (List Key × V)} (ok:HOk P w H h) (e:Rd H a (.dT kvs)):kvs.length≤sizeLine∧(a==sysModules)=false ∧
    ∃ xs,KT H kvs xs∧h.DictOfH (tupleKind (mixKind P w)) a xs:=by
  obtain ⟨z,y,xs,r,o,es,ep,h1,h2,h3,h4,h5⟩:=(show ObjOk P w H h a (.dT kvs) from rd_of ok e)
  refine ⟨z,y,xs,r,o,es,ep,h1,h2,h3,h4,fun x hx=>?_,h5⟩
  have all:∀ {l:List (List Key × V)} {m:List (List Key × Addr × Value)},KT H l m→∀ x∈m,(tupleKind (mixKind P w)).is h x.1 x.2.1:=by
    intro l m q
    induction q with
    | nil=>intro x hx;exact nomatch hx
    | @cons p q ps qs hq t ih =>
      intro x hx
      rcases List.mem_cons.mp hx with e | hx
      · subst e
        exact key_of ok (by rw [← hq.1];exact hq.2.1)
      · exact ih x hx
  exact all r x hx
theorem dt_of {kvs:List (List Key × V)}(ok:HOk P w H h)(e:H a=some (.dT kvs)):kvs.length≤sizeLine∧(a==sysModules)=false ∧
    ∃ xs,KT H kvs xs∧h.DictOfH (tupleKind (mixKind P w)) a xs:=dt_rd ok (.inl e)
end
def DGet (H:Hp)(a:Addr)(y:V)(r:Option V):Prop :=
  (∃ kvs k,Rd H a (.dK kvs)∧y=kV k∧r=valV kvs k)∨∃ kvs k b,Rd H a (.dT kvs)∧y=.ref b∧H b=some (.tup (k.map kV))∧r=valV kvs k
def DPut (H:Hp)(a:Addr)(y v:V)(H':Hp):Prop :=
  (∃ kvs k,H a=some (.dK kvs)∧y=kV k∧kvs.length<sizeLine∧H'=upd H a (.dK (putK kvs k v))) ∨
  ∃ kvs k b,H a=some (.dT kvs)∧y=.ref b∧H b=some (.tup (k.map kV))∧kvs.length<sizeLine∧H'=upd H a (.dT (putK kvs k v))
theorem DPut.k {H:Hp}{a:Addr}{kvs:List (Key × V)}{k:Key}{v:V}(e:H a=some (.dK kvs))(hl:kvs.length<sizeLine):DPut H a (kV k) v (upd H a (.dK (putK kvs k v))):=.inl ⟨kvs,k,e,rfl,hl,rfl⟩
section
variable {X:Cx}{pins:List (Addr × Obj)}{σ:St}{H:Hp}{s:Shared}{a:Addr}{y v:V}{u r:Value}{o:Option V}{A:Around}{E:Value→Shared→Prop}
theorem Inv.big (I:Inv X pins σ H s):sysModules<s.heap.objs.size:=by
  have h:mainGlobals<s.heap.objs.size:=(I.mod.glob.keeps I.bk).lt
  exact Nat.lt_trans (by decide) h
theorem d_getItem {Q:Value→Shared→Prop}(hu:A.units+1<cLine)(I:Inv X pins σ H s)(g:DGet H a y (some v))(ry:RelV y u)(h:∀ w' s',Inv X pins σ H s'→RelV v w'→Q w' s') :
    wpAny (model X.prog X.w) A (getItem (.ref a) u) Q E s:=by
  rcases g with ⟨kvs,k,e,ey,l⟩ | ⟨kvs,k,b,e,ey,eb,l⟩
  · subst ey
    obtain ⟨z,hd,vs,rel,dd⟩:=dk_rd I.hok e
    obtain ⟨w',hw,rw'⟩:=RelO.some_of (v:=v) (o:=valueAt vs k) (by rw [l];exact rel.val k)
    exact wpAny_getItem_of (kV_is ry) dd.mapOf hw (h w' _ (I.tok _) rw')
  · subst ey
    cases (show u=Value.ref b from ry)
    obtain ⟨z,hd,xs,rel,dd⟩:=dt_rd I.hok e
    obtain ⟨w',hw,rw'⟩:=RelO.some_of (v:=v) (o:=(atKey xs k).map (·.2)) (by rw [l];exact rel.val k)
    obtain ⟨p,hp,hp2⟩:=Option.map_eq_some_iff.mp hw
    refine wpAny_getItem_heap (tupleKind_room_in1 hu) (key_of I.hok eb) dd hp ?_
    rw [hp2]
    exact h w' _ (I.tok _) rw'
theorem d_in {Q:Value→Shared→Prop}(hu:A.units+1<cLine)(I:Inv X pins σ H s)(g:DGet H a y o)(ry:RelV y u)(h:∀ s',Inv X pins σ H s'→Q (.bool o.isSome) s') :
    wpAny (model X.prog X.w) A (compareOp .In u (.ref a)) Q E s:=by
  rcases g with ⟨kvs,k,e,ey,l⟩ | ⟨kvs,k,b,e,ey,eb,l⟩
  · subst ey
    obtain ⟨z,hd,vs,rel,dd⟩:=dk_rd I.hok e
    refine wpAny_in_of (kV_is ry) hd dd.mapOf ?_
    rw [← (rel.val k).isSome_eq,← l]
    exact h _ (I.tok _)
  · subst ey
    cases (show u=Value.ref b from ry)
    obtain ⟨z,hd,xs,rel,dd⟩:=dt_rd I.hok e
    refine wpAny_in_heap (tupleKind_room_in1 hu) (key_of I.hok eb) hd dd ?_
    have q:=(rel.val k).isSome_eq
    rw [Option.isSome_map] at q
    rw [← q,← l]
    exact h _ (I.tok _)
theorem d_notIn {Q:Value→Shared→Prop}(hu:A.units+1<cLine)(I:Inv X pins σ H s)(g:DGet H a y o)(ry:RelV y u)(h:∀ s',Inv X pins σ H s'→Q (.bool (!o.isSome)) s') :
    wpAny (model X.prog X.w) A (compareOp .NotIn u (.ref a)) Q E s:=by
  rcases g with ⟨kvs,k,e,ey,l⟩ | ⟨kvs,k,b,e,ey,eb,l⟩
  · subst ey
    obtain ⟨z,hd,vs,rel,dd⟩:=dk_rd I.hok e
    refine wpAny_notIn_of (kV_is ry) hd dd.mapOf ?_
    rw [← (rel.val k).isSome_eq,← l]
    exact h _ (I.tok _)
  · subst ey
    cases (show u=Value.ref b from ry)
    obtain ⟨z,hd,xs,rel,dd⟩:=dt_rd I.hok e
    refine wpAny_notIn_heap (tupleKind_room_in1 hu) (key_of I.hok eb) hd dd ?_
    have q:=(rel.val k).isSome_eq
    rw [Option.isSome_map] at q
    rw [← q,← l]
    exact h _ (I.tok _)
theorem d_write {h':Heap}{t':Nat}{ob:HO}(I:Inv X pins σ H s)(mu:Mut (H a))(hs:Heap.SameBut a s.heap h')(he:∃ q,h'.get? a=some q)(new:ObjOk X.prog X.w (upd H a ob) h' a ob) :
    Inv X pins σ (upd H a ob) { s with heap:=h',toks:=t' } :=
  I.write (x:=a) (e:=a) mu (.inl rfl) (fun b q hb z=>(hs.2 b hb).trans z) he new
theorem dk_new {P:Program}{w:World}{H':Hp}{h':Heap}{kvs:List (Key × V)}{vs:List (Key × Value)}(z:kvs.length≤sizeLine)(hd:(a==sysModules)=false)(rel:KV kvs vs)(dd:h'.DictOf (mixKind P w) a vs) :
    ObjOk P w H' h' a (.dK kvs):=⟨z,hd,vs,rel,dd⟩
theorem d_setItem {H':Hp}{Q:Unit→Shared→Prop}(hu:A.units+1<cLine)(I:Inv X pins σ H s)(g:DPut H a y v H')(ry:RelV y u)(rv:RelV v r)(h:∀ s',Inv X pins σ H' s'→Q () s') :
    wpAny (model X.prog X.w) A (setItem (.ref a) u r) Q E s:=by
  rcases g with ⟨kvs,k,e,ey,l,eH⟩ | ⟨kvs,k,b,e,ey,eb,l,eH⟩
  · subst ey eH
    obtain ⟨z,hd,vs,rel,dd⟩:=dk_of I.hok e
    have hz:vs.length≤sizeLine:=by rw [← rel.length];exact z
    have hl:(putK kvs k v).length≤sizeLine:=by have:=length_putK kvs k v;omega
    refine wpAny_setItem_pairs (hsz:=hz) (kV_is ry) dd fun h' dd' hs=>h _ ?_
    have he:∃ q,h'.get? a=some q:=let ⟨q,_,_,hq,_⟩:=dd';⟨q,hq⟩
    exact d_write I (by rw [e];exact True.intro) hs he (dk_new hl hd (rel.put k rv) dd')
  · subst ey eH
    cases (show u=Value.ref b from ry)
    obtain ⟨z,hd,xs,rel,dd⟩:=dt_of I.hok e
    have hz:xs.length≤sizeLine:=by rw [← Paired.length rel];exact z
    have hl:(putK kvs k v).length≤sizeLine:=by have:=length_putK kvs k v;omega
    refine wpAny_setItem_heap (hsz:=hz) (tupleKind_room_in1 hu) (key_of I.hok eb) dd fun h' dd' hs=>h _ ?_
    obtain ⟨q,es,ep,hq,h2,h3,h4,_,h5⟩:=dd'
    refine d_write I (by rw [e];exact True.intro) hs ⟨q,hq⟩ ⟨hl,hd,_,(rel.put k eb rv).keeps fun c ys ec=>?_,q,es,ep,hq,h2,h3,h4,h5⟩
    rw [upd_ne (ne_of ec e (fun z=>nomatch z))]
    exact ec
end
section
variable {X:Cx}{pins:List (Addr × Obj)}{σ:St}{H:Hp}{s:Shared}{a:Addr}{kvs:List (Key × V)}{k:Key}{u:Value}{A:Around}{E:Value→Shared→Prop}
end
def NoSl (i:Expr):Prop:=∀ ov iv,subscripted i false ov iv=operate [ov,iv] (getItem ov iv)
theorem subD_of {prog:Program}{w:World}{A:Around}{E:Value→Shared→Prop}{s:Shared}{env:Env}{value slice:Expr}{pos:Pos}{T id:String}{Q:Value→Shared→Prop}
    (hl:typeLookup (.type T) "__getitem__"=pure (some (.builtin id))) (hs:NoSl slice)
    (h:wpAny (model prog w) A (eval value env) (fun o s₁=>wpAny (model prog w) A (eval slice env) (fun i s₂=>s₂.TypeIs o T∧wpAny (model prog w) A (getItem o i) Q E s₂) E s₁) E s) :
    wpAny (model prog w) A (eval (.Subscript value slice pos) env) Q E s:=by
  refine Subscript_ (wpAny_mono h (fun o s₁ h₁=>wpAny_mono h₁ (fun i s₂ h₂=>?_) fun _ _ x=>x) fun _ _ x=>x)
  obtain ⟨hT,h₂⟩:=h₂
  unfold subscriptTail
  refine wpAny_bind ?_
  rw [getitemInPython_of_ne hT.not_modules]
  refine wpAny_bind (wpAny_specialOf hT hl ?_)
  have fin:wpAny (model prog w) A (subscripted slice false o i) (fun r s₃=>wpAny (model prog w) A (letTemporaryGo value o r >>= fun _=>pure r) Q E s₃) E s₂:=by
    rw [hs o i]
    exact wpAny_operating (wpAny_mono h₂ (fun r s₃ h₃=>wpAny_bind (wpAny_letTemporaryGo (wpAny_pure h₃))) fun _ _ x=>x)
  first
    | exact wpAny_pure (wpAny_bind fin)
    | exact wpAny_bind (wpAny_pure (wpAny_bind fin))
    | exact wpAny_bind fin
theorem dict_typeIs {X:Cx}{pins:List (Addr × Obj)}{σ:St}{H:Hp}{s:Shared}{a:Addr}{y:V}{o:Option V}(I:Inv X pins σ H s)(g:DGet H a y o):s.TypeIs (.ref a) "dict":=by
  rcases g with ⟨kvs,k,e,_,_⟩ | ⟨kvs,k,b,e,_,_,_⟩
  · obtain ⟨_,_,vs,_,dd⟩:=dk_rd I.hok e
    exact dd.typeIs
  · obtain ⟨_,_,xs,_,dd⟩:=dt_rd I.hok e
    exact dd.typeIs
def tDGet (td ty:TE):TE:=fun σ H Q=>td σ H fun x H1=>ty σ H1 fun y H2=>∃ a v,x=.ref a∧DGet H2 a y (some v)∧Q v H2
def tDIn (ty td:TE):TE:=fun σ H Q=>ty σ H fun y H1=>td σ H1 fun x H2=>∃ a o,x=.ref a∧DGet H2 a y o∧Q (.bl o.isSome) H2
def tDNotIn (ty td:TE):TE:=fun σ H Q=>ty σ H fun y H1=>td σ H1 fun x H2=>∃ a o,x=.ref a∧DGet H2 a y o∧Q (.bl (!o.isSome)) H2
def sDPut (td ty tv:TE):TS:=fun D σ H=>tv σ H fun v H1=>td σ H1 fun x H2=>ty σ H2 fun y H3=>∃ a H4,x=.ref a∧DPut H3 a y v H4∧D.nx σ H4
section
variable {X:Cx}{o i e value:Expr}{pos pos' tpos:Pos}{td ty tv:TE}
theorem pe_dget (hu:X.A.units+1<cLine)(ho:PE X o td)(hi:PE X i ty)(hs:NoSl i):PE X (.Subscript o i pos) (tDGet td ty):=by
  intro pins s σ H Q I h
  refine subD_of PySem.F.slot_dict_getitem.lookup hs (thn (ho pins s σ H _ I h) fun u s1 ⟨x,H1,I1,rx,q1⟩=>thn (hi pins s1 σ H1 _ I1 q1) fun iv s2 ⟨y,H2,I2,ry,a,v,ex,g,q2⟩=>?_)
  subst ex
  obtain rfl:u=Value.ref a:=rx
  exact ⟨dict_typeIs I2 g,d_getItem hu I2 g ry fun w' s3 I3 rw'=>⟨v,H2,I3,rw',q2⟩⟩
theorem pc_din (hu:X.A.units+1<cLine)(hi:PE X i ty)(ho:PE X o td):PC X .In i o (tDIn ty td):=by
  intro pins s σ H Q I h
  refine thn (hi pins s σ H _ I h) fun iv s1 ⟨y,H1,I1,ry,q1⟩=>thn (ho pins s1 σ H1 _ I1 q1) fun u s2 ⟨x,H2,I2,rx,a,ov,ex,g,q2⟩=>?_
  subst ex
  obtain rfl:u=Value.ref a:=rx
  exact d_in hu I2 g ry fun s3 I3=>⟨.bl ov.isSome,H2,I3,rfl,q2⟩
theorem pc_dnotin (hu:X.A.units+1<cLine)(hi:PE X i ty)(ho:PE X o td):PC X .NotIn i o (tDNotIn ty td):=by
  intro pins s σ H Q I h
  refine thn (hi pins s σ H _ I h) fun iv s1 ⟨y,H1,I1,ry,q1⟩=>thn (ho pins s1 σ H1 _ I1 q1) fun u s2 ⟨x,H2,I2,rx,a,ov,ex,g,q2⟩=>?_
  subst ex
  obtain rfl:u=Value.ref a:=rx
  exact d_notIn hu I2 g ry fun s3 I3=>⟨.bl (!ov.isSome),H2,I3,rfl,q2⟩
theorem ps_dput (hu:X.A.units+1<cLine)(ho:PE X o td)(hi:PE X i ty)(hv:PE X value tv)(hs:swapsWith value (some (.Subscript o i pos')) pos.line X.env=pure false) :
    PS X (.Assign [.Subscript o i pos'] value pos) (sDPut td ty tv):=by
  intro pins s σ H D I h
  refine wpAny_Assign_Subscript (thn (hv pins s σ H _ I h) fun r s1 ⟨v,H1,I1,rv,q1⟩=>thn (ho pins s1 σ H1 _ I1 q1) fun u s2 ⟨x,H2,I2,rx,q2⟩=>thn (hi pins s2 σ H2 _ I2 q2) fun iv s3 ⟨y,H3,I3,ry,a,H4,ex,g,q3⟩=>?_) hs
  subst ex
  obtain rfl:u=Value.ref a:=rx
  exact d_setItem hu I3 g ry rv fun s4 I4=>⟨σ,H4,I4,q3⟩
end
theorem dk_empty {P:Program}{w:World}{H:Hp}(h:Heap)(hb:sysModules<h.objs.size):ObjOk P w H (h.push { cls:=.type "dict",data:=.dict #[] }) h.objs.size (.dK []) :=
  ⟨Nat.zero_le _,beq_eq_false_iff_ne.mpr (Ne.symm (Nat.ne_of_lt hb)),[],.nil,Heap.DictOf.new h⟩
def tDNewK:TE:=fun _ H Q=>∀ p,H p=none→Q (.ref p) (upd H p (.dK []))
section
variable {X:Cx}{pos:Pos}
theorem pe_dnewK:PE X (.Dict [] [] pos) tDNewK:=fun pins s σ H Q I h =>
  wpAny_Dict_empty ⟨.ref s.heap.objs.size,_,I.laid (a:=s.heap.objs.size) (o:=.dK []) (t':=s.toks) (fun _ _ q=>Heap.get?_push_of_some _ q) (Nat.le_refl _) (dk_empty s.heap I.big),rfl,h _ (I.hok.fresh (Nat.le_refl _))⟩
end
structure M1 (X:Cx)(o:Expr)(m:Str)(apos:Pos)(e:Expr)(cpos:Pos):Prop where
  base:attributeBase o m X.env (eval o X.env)=eval o X.env
  few:((backTo cpos (starEach [e] X.env)).all (fun x=>!x.1)&&(backToKw cpos (keywordEach [] X.env)).all (fun x=>x.1.isSome)
    && decide (([e]:List Expr).length+([]:List Keyword).length+(if ([]:List Keyword).isEmpty then 0 else 1)<30))=true
  line:(apos.endLine==cpos.line)=true
  trees:backTo cpos (starEach [e] X.env)=[(false,eval e X.env)]
structure M2 (X:Cx)(o:Expr)(m:Str)(apos:Pos)(e f:Expr)(cpos:Pos):Prop where
  base:attributeBase o m X.env (eval o X.env)=eval o X.env
  few:((backTo cpos (starEach [e,f] X.env)).all (fun x=>!x.1)&&(backToKw cpos (keywordEach [] X.env)).all (fun x=>x.1.isSome)
    && decide (([e,f]:List Expr).length+([]:List Keyword).length+(if ([]:List Keyword).isEmpty then 0 else 1)<30))=true
  line:(apos.endLine==cpos.line)=true
  trees:backTo cpos (starEach [e,f] X.env)=[(false,eval e X.env),(false,eval f X.env)]
section
variable {X:Cx}{pins:List (Addr × Obj)}{σ:St}{H:Hp}{s:Shared}{a:Addr}{y d:V}{u r:Value}{o:Option V}{A:Around}{E:Value→Shared→Prop}
end
section
variable {X:Cx}{o e f:Expr}{apos cpos:Pos}{td ty tx:TE}
end
section
variable {X:Cx}{pins:List (Addr × Obj)}{σ:St}{H:Hp}{s:Shared}{a:Addr}{kvs:List (Key × V)}{A:Around}{E:Value→Shared→Prop}
end
section
variable {X:Cx}{pins:List (Addr × Obj)}{σ:St}{H:Hp}{s:Shared}{a:Addr}{y:V}{u:Value}{A:Around}{E:Value→Shared→Prop}
end
section
variable {X:Cx}
end
section
variable {κ:Type}[DecidableEq κ]
end
end L2
namespace BM
open PySem L2 PyProof.Rows
def wd:List Nat→Nat
  | []=>0
  | p::r=>2^p+wd r
def Up:Nat→List Nat→Prop
  | _,[]=>True
  | a,p::r=>a≤p∧Up (p+1) r
def pl (n w:Nat):List Nat:=(List.range n).filter w.testBit
def cov (rs:List (Nat × Nat))(i:Nat):Prop:=∃ r∈rs,r.1≤i∧i≤r.2
inductive Dec:List Nat→List (Nat × Nat)→Prop
  | nil:Dec [] []
  | cons {p n:Nat} {rest:List Nat} {rs:List (Nat × Nat)} (u:Up (p+n+2) rest) (h:Dec rest rs):Dec (List.range' p (n+1)++rest) ((p,p+n)::rs)
end BM
namespace L2
open PySem PySem.Spec PyProof.Rows
section
variable {prog:Program}{w:World}{A:Around}{R:Result→Shared→Prop}{s:Shared}
theorem compLoop_any {elt target iter:Expr}{ifs:List Expr}{scope:Scope}{pos:Pos}{it acc:Value}{env:Env}(I:Nat→Shared→Prop)
    (turn : ∀ n s,I n s→wpAny (model prog w) A (pyNext it) (fun r s₁=>match r with
      | none=>R (.ok .next) s₁
      | some v=>wpAny (model prog w) A (letOwnedTupleGo target it v) (fun _ s₀=>wpAny (model prog w) A (assign target env v) (fun _ s₂ =>
          wpAny (model prog w) A (forIn ifs true fun c r=>if r=true then do let ok ← isTrue c env (eval c env);pure (ForInStep.yield ok) else pure (ForInStep.yield r)) (fun ok s₃ =>
            if ok=true then wpAny (model prog w) A (eval elt env) (fun x s₄ =>
              wpAny (model prog w) A (call (.builtin "list.append") [acc,x]) (fun _ s₅=>∃ m,m<n∧I m s₅) (fun _ _=>False) s₄) (fun _ _=>False) s₃
            else ∃ m,m<n∧I m s₃) (fun _ _=>False) s₂) (fun _ _=>False) s₀) (fun _ _=>False) s₁) (fun _ _=>False) s)
    (n:Nat) (h:I n s) :
    codeAny (model prog w) A (.compLoop (.ListComp elt [⟨target,iter,ifs,0⟩] scope pos) 0 it acc env) R s:=by
  refine codeAny_loop rfl I (fun n s hI=>?_) n h
  show wpAny _ A ((compTurn (.ListComp elt [⟨target,iter,ifs,0⟩] scope pos) 0 it acc env).onRaise (fun x=>do noteFrame x env;theTreesLotGoes x)) _ _ s
  refine wpAny_noted ?_
  rw [compTurn_list]
  refine wpAny_bind (wpAny_standAt (wpAny_bind (wpAny_mono (turn n s hI) (fun r s₁ h₁=>?_) fun _ _ h'=>h'.elim)))
  cases r with
  | none=>exact wpAny_pure h₁
  | some v =>
    refine wpAny_bind (wpAny_mono h₁ (fun _ s₀ h₀=>?_) fun _ _ h'=>h'.elim)
    refine wpAny_bind (wpAny_mono h₀ (fun _ s₂ h₂=>wpAny_bind (wpAny_mono h₂ (fun ok s₃ h₃=>?_) fun _ _ h'=>h'.elim)) fun _ _ h'=>h'.elim)
    cases ok with
    | false=>exact wpAny_pure ⟨rfl,h₃⟩
    | true =>
      exact wpAny_bind (wpAny_bind (wpAny_mono h₃ (fun x s₄ h₄=>wpAny_bind (wpAny_mono h₄ (fun _ s₅ h₅=>wpAny_pure (wpAny_pure ⟨rfl,h₅⟩)) fun _ _ h'=>h'.elim)) fun _ _ h'=>h'.elim))
end
theorem closure_aux {env:Env}:∀ (names:List (Str × NameKind)) (acc:List (Str × Addr)),(∀ z∈names,z.2=.free→∃ c,env.cells.lookup z.1=some c) →
    ∃ cl,(forIn names acc fun x r=>if (x.2==NameKind.free)=true then do let a ← cellOf env x.1;pure (ForInStep.yield ((x.1,a)::r)) else pure (ForInStep.yield r):Sem (List (Str × Addr)))=pure cl ∧
      (∀ y c,cl.lookup y=some c→acc.lookup y=some c∨env.cells.lookup y=some c)∧(∀ y,((∃ c,acc.lookup y=some c)∨(y,NameKind.free)∈names)→∃ c,cl.lookup y=some c)
  | [],acc,_=>⟨acc,by rw [List.forIn_nil],fun _ _ h=>.inl h,fun y h=>by
      rcases h with h | h
      · exact h
      · simp at h⟩
  | (n, k)::r,acc,h=>by
    have hr:∀ z∈r,z.2=.free→∃ c,env.cells.lookup z.1=some c:=fun z hz=>h z (List.mem_cons_of_mem _ hz)
    by_cases hk:k=.free
    · subst hk
      obtain ⟨c,hc⟩:=h (n,.free) List.mem_cons_self rfl
      obtain ⟨cl,e,h1,h2⟩:=closure_aux r ((n,c)::acc) hr
      refine ⟨cl,?_,fun y d hd=>?_,fun y hy=>?_⟩
      · rw [List.forIn_cons]
        have e1:cellOf env n=pure c:=by unfold cellOf;rw [hc]
        simp only [beq_self_eq_true,if_true,e1,pure_bind]
        exact e
      · rcases h1 y d hd with z | z
        · rw [List.lookup_cons] at z
          cases hy:y==n with
          | true =>
            rw [hy] at z
            have:y=n:=by simpa using hy
            subst this
            cases z
            exact .inr hc
          | false=>rw [hy] at z;exact .inl z
        · exact .inr z
      · refine h2 y ?_
        rcases hy with ⟨d,hd⟩ | hy
        · cases q:y==n with
          | true=>exact .inl ⟨c,by rw [List.lookup_cons,q]⟩
          | false=>exact .inl ⟨d,by rw [List.lookup_cons,q];exact hd⟩
        · rcases List.mem_cons.mp hy with z | z
          · cases z
            exact .inl ⟨c,by rw [List.lookup_cons,beq_self_eq_true]⟩
          · exact .inr z
    · obtain ⟨cl,e,h1,h2⟩:=closure_aux r acc hr
      refine ⟨cl,?_,h1,fun y hy=>h2 y ?_⟩
      · rw [List.forIn_cons]
        have:(k==NameKind.free)=false:=by simpa using hk
        simp only [this,Bool.false_eq_true,if_false,pure_bind]
        exact e
      · rcases hy with z | z
        · exact .inl z
        · rcases List.mem_cons.mp z with q | q
          · cases q
            exact absurd rfl hk
          · exact .inr q
theorem closure_of {scope:Scope}{env:Env}(h:∀ z∈scope.names,z.2=.free→∃ c,env.cells.lookup z.1=some c) :
    ∃ cl,closureFor scope env=pure cl∧(∀ y c,cl.lookup y=some c→env.cells.lookup y=some c)∧∀ y,(y,NameKind.free)∈scope.names→∃ c,cl.lookup y=some c:=by
  obtain ⟨cl,e,h1,h2⟩:=closure_aux (env:=env) scope.names [] h
  refine ⟨cl,?_,fun y c hc=>?_,fun y hy=>h2 y (.inr hy)⟩
  · unfold closureFor
    exact (congrArg (fun m:Sem (List (Str × Addr))=>m >>= fun cs=>pure cs) e).trans (pure_bind _ _)
  · rcases h1 y c hc with z | z
    · cases z
    · exact z
def compX (X:Cx)(scope:Scope)(own:List Str)(caps:List Nat)(cl:List (Str × Addr))(C:Addr)(s₃:Shared)(H₃:Hp)(fp:List Addr):Cx :=
  { X with env:=compEnvC scope cl C X.env,N:=own++caps.map fun j=>X.N.getD j Str.empty,s₀:=s₃,H₀:=H₃,outer:=X.stack,stack:=X.stack,ex:=fp,fn:=fun _=>false,pn:=[],xe:=fun _ _=>False }
def capSt (n:Nat)(caps:List Nat)(σ:St):St:=List.replicate n none++caps.map fun j=>σ.getD j none
def compOk (sc osc:Scope):Bool :=
  (sc.kind==.function)&&sc.names.all fun z=>match z.2 with
    | .cell=>false
    | .local=>sc.names.lookup z.1==some .local
    | .free=>osc.names.lookup z.1==some .cell||osc.names.lookup z.1==some .free
    | _=>true
def capOk (X:Cx)(sc:Scope):List Nat→Prop
  | []=>True
  | j::r=>(∃ y,X.N[j]?=some y∧sc.names.lookup y=some .free∧(X.env.scope.names.lookup y=some .cell∨X.env.scope.names.lookup y=some .free))∧capOk X sc r
def gOwn (n:Nat)(g:TG):Prop:=∀ v σ H Q,g v σ H Q→g v σ H fun σ' H'=>(σ'.length=σ.length∧σ'.drop n=σ.drop n)∧Q σ' H'
theorem gOwn_name:gOwn 1 (gName 0):=fun v σ H Q h=>⟨⟨by simp,by cases σ<;>simp⟩,h⟩
def tNoTest:TT:=fun _ H Q=>Q true H
def tComp (n:Nat) (caps:List Nat) (wi:TI) (g:TG) (tt:TT) (te:TE):TE:=fun σ H Q=>wi σ H fun J H1=>∀ D,H1 D=none→∃ W:Nat→Nat→Hp→Prop,(∃ m,W 0 m (upd H1 D (.lst [])))∧∀ i m H2,W i m H2 →
  (J.stop i H2∧Q (.ref D) H2)∨(J.go i H2∧∀ x H3,J.yld i H2 x H3→g x (capSt n caps σ) H3 fun σ4 H4=>tt σ4 H4 fun b H5 =>
    if b=true then te σ4 H5 fun y H6=>∃ xs,H6 D=some (.lst xs)∧xs.length<sizeLine∧∃ m',m'<m∧W (i+1) m' (upd H6 D (.lst (xs++[y]))) else ∃ m',m'<m∧W (i+1) m' H5)
def PTs (X:Cx) (ifs:List Expr) (t:TT):Prop :=
  ∀ (pins:List (Addr × Obj)) (s:Shared) (σ:St) (H:Hp) (Q:Bool→Hp→Prop),Inv X pins σ H s→t σ H Q →
    wpAny (model X.prog X.w) X.A (forIn ifs true fun c r=>if r=true then do let ok ← isTrue c X.env (eval c X.env);pure (ForInStep.yield ok) else pure (ForInStep.yield r)) (TP X pins σ Q) X.xe s
theorem pts_nil {X:Cx}:PTs X [] tNoTest:=fun _ _ _ H _ I h=>wpAny_tests_nil ⟨H,I,h⟩
theorem lookup_relabel_free {env:Env}:∀ {names:List (Str × NameKind)} {x:Str} {k:NameKind},names.lookup x=some k →
    (names.map fun (n,k)=>if (k==NameKind.free&&env.scope.kind==.function&&env.kindOf n==some .cell) then (n,NameKind.cell) else (n,k)).lookup x=some (if (k==NameKind.free&&env.scope.kind==.function&&env.kindOf x==some .cell) then NameKind.cell else k)
  | [],_,_,h=>by simp at h
  | (n,k')::r,x,k,h=>by
    have ih:=@lookup_relabel_free env r x k
    show List.lookup x ((if (k'==NameKind.free&&env.scope.kind==.function&&env.kindOf n==some .cell)=true then (n,NameKind.cell) else (n,k'))::_)=_
    cases hx:x==n with
    | true =>
      simp only [List.lookup_cons,hx] at h
      cases h
      have:x=n:=by simpa using hx
      subst this
      split<;>simp [List.lookup_cons]
    | false =>
      simp only [List.lookup_cons,hx] at h
      split
      · simp only [List.lookup_cons,hx];exact ih h
      · simp only [List.lookup_cons,hx];exact ih h
theorem lookup_relabel_inv {env:Env}:∀ {names:List (Str × NameKind)} {x:Str} {k:NameKind},
    (names.map fun (n,k)=>if (k==NameKind.free&&env.scope.kind==.function&&env.kindOf n==some .cell) then (n,NameKind.cell) else (n,k)).lookup x=some k →
    ∃ k',(x,k')∈names∧(k=k'∨(k'=.free∧k=.cell))
  | [],_,_,h=>by simp at h
  | (n, k')::r,x,k,h=>by
    have ih:=@lookup_relabel_inv env r x k
    rw [List.map_cons] at h
    cases hc:(k'==NameKind.free&&env.scope.kind==.function&&env.kindOf n==some .cell) with
    | true =>
      simp only [hc,if_true,List.lookup_cons] at h
      cases hx:x==n with
      | true =>
        simp only [hx,Option.some.injEq] at h
        have e:x=n:=by simpa using hx
        have:k'=.free:=by
          simp only [Bool.and_eq_true,beq_iff_eq] at hc
          exact hc.1.1
        exact ⟨.free,by rw [e,← this];exact List.mem_cons_self,.inr ⟨rfl,h.symm⟩⟩
      | false =>
        simp only [hx] at h
        obtain ⟨q,m,z⟩:=ih h
        exact ⟨q,List.mem_cons_of_mem _ m,z⟩
    | false =>
      simp only [hc,Bool.false_eq_true,if_false,List.lookup_cons] at h
      cases hx:x==n with
      | true =>
        simp only [hx,Option.some.injEq] at h
        have e:x=n:=by simpa using hx
        exact ⟨k',by rw [e];exact List.mem_cons_self,.inl h.symm⟩
      | false =>
        simp only [hx] at h
        obtain ⟨q,m,z⟩:=ih h
        exact ⟨q,List.mem_cons_of_mem _ m,z⟩
theorem cok_kind {sc osc:Scope}(h:compOk sc osc=true):sc.kind=.function:=by
  unfold compOk at h
  simp only [Bool.and_eq_true,beq_iff_eq] at h
  exact h.1
theorem cok_all {sc osc:Scope}(h:compOk sc osc=true):∀ z∈sc.names,(match z.2 with
    | .cell=>false
    | .local=>sc.names.lookup z.1==some .local
    | .free=>osc.names.lookup z.1==some .cell||osc.names.lookup z.1==some .free
    | _=>true)=true:=by
  unfold compOk at h
  simp only [Bool.and_eq_true] at h
  exact List.all_eq_true.mp h.2
theorem cok_cell {sc osc:Scope}(h:compOk sc osc=true):∀ z∈sc.names,z.2≠.cell:=fun z hz e=>by
  have:=cok_all h z hz
  rw [e] at this
  cases this
theorem cok_loc {sc osc:Scope}(h:compOk sc osc=true):∀ z∈sc.names,z.2=.local→sc.names.lookup z.1=some .local:=fun z hz e=>by
  have:=cok_all h z hz
  rw [e] at this
  simpa using this
theorem cok_free {sc osc:Scope}(h:compOk sc osc=true):∀ z∈sc.names,z.2=.free→osc.names.lookup z.1=some .cell∨osc.names.lookup z.1=some .free:=fun z hz e=>by
  have:=cok_all h z hz
  rw [e] at this
  simpa using this
theorem capOk.get {X:Cx}{sc:Scope}:∀ {caps:List Nat} {j:Nat},capOk X sc caps→j∈caps→∃ y,X.N[j]?=some y∧sc.names.lookup y=some .free∧(X.env.scope.names.lookup y=some .cell∨X.env.scope.names.lookup y=some .free)
  | [],_,_,h=>by simp at h
  | i::r,j,h,hj=>by
    rcases List.mem_cons.mp hj with e | e
    · subst e;exact h.1
    · exact h.2.get e
theorem mem_of_lookupN {x:Str}{k:NameKind}:∀ {l:List (Str × NameKind)},l.lookup x=some k→(x,k)∈l
  | [],h=>by simp at h
  | (n,k')::r,h=>by
    rw [List.lookup_cons] at h
    cases hx:x==n with
    | true =>
      simp only [hx,Option.some.injEq] at h
      have e:x=n:=by simpa using hx
      rw [e,h]
      exact List.mem_cons_self
    | false =>
      simp only [hx] at h
      exact List.mem_cons_of_mem _ (mem_of_lookupN h)
section
variable {X:Cx}{pins:List (Addr × Obj)}{σ:St}{H2:Hp}{s2:Shared}{scope:Scope}{own:List Str}{caps:List Nat}
theorem capSt_get {n:Nat}{caps:List Nat}{σ:St}{i:Nat}{v:V}(h:(capSt n caps σ)[i]?=some (some v)):n≤i∧∃ j,caps[i-n]?=some j∧σ[j]?=some (some v):=by
  unfold capSt at h
  rw [List.getElem?_append] at h
  split at h
  · rename_i hl
    rw [List.length_replicate] at hl
    rw [List.getElem?_replicate,if_pos hl] at h
    cases h
  · rename_i hl
    rw [List.length_replicate] at h hl
    refine ⟨by omega,?_⟩
    rw [List.getElem?_map] at h
    cases q:caps[i-n]? with
    | none=>rw [q] at h;cases h
    | some j =>
      rw [q] at h
      refine ⟨j,rfl,?_⟩
      have h:σ.getD j none=some v:=Option.some.inj h
      rw [List.getD_eq_getElem?_getD] at h
      cases z:σ[j]? with
      | none=>rw [z] at h;cases h
      | some o=>rw [z] at h;exact congrArg some h
theorem Inv.comp {n:Nat} {fp:List Addr} {cl:List (Str × Addr)} {C:Addr} {h4:Heap} {tk:Nat}
    (I2:Inv X pins σ H2 s2) (hok:compOk scope X.env.scope=true) (hcap:capOk X scope caps) (hown:own.length=n)
    (cl1:∀ y c,cl.lookup y=some c→X.env.cells.lookup y=some c) (cl2:∀ y,(y,NameKind.free)∈scope.names→∃ c,cl.lookup y=some c)
    (hfp:∀ b∈fp,FpOk X pins H2 b) (hobj:∀ b∈fp,b<s2.heap.objs.size) (hC:C=s2.heap.objs.size) (hn:h4.Ns C fun _=>none)
    (hsb:∀ b o,s2.heap.get? b=some o→h4.get? b=some o) :
    Inv (compX X scope own caps cl C s2 H2 fp) [] (capSt n caps σ) H2 { s2 with heap:=h4,toks:=tk }:=by
  have hkind:=cok_kind hok
  have ok':(compX X scope own caps cl C s2 H2 fp).Ok:=by
    refine ⟨I2.ok.mod,hkind,I2.ok.glob,I2.ok.blt,by rw [hC];exact Nat.le_refl _,fun x y c h1 h2=>I2.ok.inj x y c (cl1 x c h1) (cl1 y c h2),fun x hx=>?_,fun x c h=>(by cases h),I2.ok.hd,I2.ok.frames,.inl rfl,fun b hb=>⟨?_,fun x c h=>(hfp b hb).2.2.2.2.1 x c (cl1 x c h)⟩,I2.bs,?_,fun b o e hb=>?_,fun b hb hf=>?_,I2.stack,I2.stkFree⟩
    · have:∃ k',(x,k')∈scope.names∧(k'=.cell∨k'=.free):=by
        rcases hx with hx | hx
        · obtain ⟨k',m,z⟩:=lookup_relabel_inv (env:=X.env) (names:=scope.names) (x:=x) (k:=.cell) hx
          rcases z with z | z
          · exact ⟨k',m,.inl z.symm⟩
          · exact ⟨k',m,.inr z.1⟩
        · obtain ⟨k',m,z⟩:=lookup_relabel_inv (env:=X.env) (names:=scope.names) (x:=x) (k:=.free) hx
          rcases z with z | z
          · exact ⟨k',m,.inr z.symm⟩
          · cases z.2
      obtain ⟨k',m,z | z⟩:=this
      · subst z;exact absurd rfl (cok_cell hok _ m)
      · subst z;exact cl2 x m
    · show b≠C
      rw [hC];exact Nat.ne_of_lt (hobj b hb)
    · exact Nat.le_trans I2.ok.bsz (Nat.le_trans I2.ok.above (Nat.le_of_lt I2.lt))
    · rcases (hfp b hb).2.2.2.1 with z | z
      · exact I2.ok.noex b o e z
      · exact absurd (Nat.lt_of_lt_of_le (Heap.lt_size e) (Nat.le_trans I2.ok.bsz z)) (Nat.lt_irrefl _)
    · rcases List.mem_cons.mp (I2.stkSub b hf) with z | z
      · exact (hfp b hb).2.1 z
      · exact (hfp b hb).2.2.1 z
  have hCn:H2 C=none:=I2.hok.fresh (by rw [hC];exact Nat.le_refl _)
  refine ⟨ok',rfl,I2.bare,Un.kept hsb,⟨_,hn,fun i x v e1 e2 e3=>?_⟩,fun x c e=>?_,hCn,fun x c e=>I2.freeC x c (cl1 x c e),fun p hp=>(by cases hp),I2.hok.kept hsb,?_⟩
  · obtain ⟨hi,j,hj,hv⟩:=capSt_get e2
    have e1:(own++caps.map fun j=>X.N.getD j Str.empty)[i]?=some x:=e1
    rw [List.getElem?_append_right (by rw [hown];exact hi),List.getElem?_map,hown,hj] at e1
    have e1:X.N.getD j Str.empty=x:=Option.some.inj e1
    obtain ⟨y,hy,hfree,hout⟩:=hcap.get (List.mem_of_getElem? hj)
    rw [List.getD_eq_getElem?_getD,hy] at e1
    have e1:y=x:=e1
    subst e1
    obtain ⟨m,hm,hl⟩:=I2.loc
    obtain ⟨u,r,l⟩:=hl j y v hy hv (.inr hout)
    refine ⟨u,r,.inr ⟨?_,?_⟩⟩
    · have:=lookup_relabel_free (env:=X.env) hfree
      show (relabel scope X.env).names.lookup y=some .cell∨(relabel scope X.env).names.lookup y=some .free
      unfold relabel
      rw [this]
      split
      · exact .inl rfl
      · exact .inr rfl
    · obtain ⟨c,hc⟩:=cl2 y (mem_of_lookupN hfree)
      refine ⟨c,hc,?_⟩
      rcases l with ⟨k,_⟩ | ⟨_,c',hc',hcell⟩
      · have k:X.env.scope.names.lookup y=some .local:=k
        rcases hout with z | z<;>(rw [k] at z;cases z)
      · rw [cl1 y c hc] at hc'
        cases hc'
        obtain ⟨o,ho,hd⟩:=hcell
        exact ⟨o,hsb _ _ ho,hd⟩
  · obtain ⟨v,o,ho,hd⟩:=I2.cell x c (cl1 x c e)
    exact ⟨v,o,hsb _ _ ho,hd⟩
  · show (capSt n caps σ).length=(own++caps.map fun j=>X.N.getD j Str.empty).length
    unfold capSt
    rw [List.length_append,List.length_append,List.length_replicate,List.length_map,List.length_map,hown]
theorem comp_core {n:Nat} {tg iter elt:Expr} {ifs:List Expr} {pos:Pos} {it:Addr} {fp:List Addr} {tn:Nat→Heap→Prop} {J:It} {cl:List (Str × Addr)} {g:TG} {tt:TT} {te:TE} {E:Value→Shared→Prop} {RR:Value→Addr→Result→Shared→Prop} {Q:VK}
    (hc:X.calm=true) (I2:Inv X pins σ H2 s2) (T:Turn X.prog X.w X.K tg J fp it tn) (st2:tn 0 s2.heap) (f2:∀ b∈fp,FpOk X pins H2 b)
    (hok:compOk scope X.env.scope=true) (hcap:capOk X scope caps) (hown:own.length=n) (hgo:gOwn n g)
    (cl1:∀ y c,cl.lookup y=some c→X.env.cells.lookup y=some c) (cl2:∀ y,(y,NameKind.free)∈scope.names→∃ c,cl.lookup y=some c)
    (hg:∀ C s₃ H₃,PG (compX X scope own caps cl C s₃ H₃ fp) tg g) (ht:∀ C s₃ H₃,PTs (compX X scope own caps cl C s₃ H₃ fp) ifs tt) (he:∀ C s₃ H₃,PE (compX X scope own caps cl C s₃ H₃ fp) elt te)
    (h:∀ D,H2 D=none→∃ W:Nat→Nat→Hp→Prop,(∃ m,W 0 m (upd H2 D (.lst [])))∧∀ i m H2,W i m H2 →
      (J.stop i H2∧Q (.ref D) H2)∨(J.go i H2∧∀ x H3,J.yld i H2 x H3→g x (capSt n caps σ) H3 fun σ4 H4=>tt σ4 H4 fun b H5 =>
        if b=true then te σ4 H5 fun y H6=>∃ xs,H6 D=some (.lst xs)∧xs.length<sizeLine∧∃ m',m'<m∧W (i+1) m' (upd H6 D (.lst (xs++[y]))) else ∃ m',m'<m∧W (i+1) m' H5))
    (hRR:∀ D C s' H' m,s'.heap.Ns C m→Inv X pins σ H' s'→FpOk X pins H' C→Q (.ref D) H'→RR (.ref D) C (.ok .next) s') :
    wpAny (model X.prog X.w) X.A (newList []) (fun acc s₃=>wpAny (model X.prog X.w) X.A (newFunctionEnv scope X.env.globals cl [] X.env.qual none .none (some X.env)) (fun cenv s₄ =>
      codeAny (model X.prog X.w) X.A (.compStart (.ListComp elt [⟨tg,iter,ifs,0⟩] scope pos) 0 (.ref it) acc { cenv with scope:=relabel scope X.env }) (RR acc cenv.locals) s₄) E s₃) E s2:=by
  refine wpAny_newList (items:=[]) (wpAny_newFunctionEnv (cok_cell hok) (by intro y hy;simp at hy) (fun h₁ hns₁ hsb₁=>?_) (cok_kind hok)) (by show 0≤sizeLine;decide)
  obtain ⟨W,⟨m0,w0⟩,turn⟩:=h s2.heap.objs.size I2.fresh
  have I3:Inv X pins σ (upd H2 s2.heap.objs.size (.lst [])) { s2 with heap:=s2.heap.push { cls:=.type "list",data:=.seq ([]:List Value).toArray } }:=I2.lnew (t':=s2.toks) .nil (by show 0≤sizeLine;decide)
  generalize hs3:({ s2 with heap:=s2.heap.push { cls:=.type "list",data:=.seq ([]:List Value).toArray } }:Shared)=s₃ at *
  have e3:s₃.heap.objs.size=s2.heap.objs.size+1:=by rw [← hs3];exact Heap.size_push _ _
  have k23:∀ b o,s2.heap.get? b=some o→s₃.heap.get? b=some o:=fun b o e=>by rw [← hs3];exact Heap.get?_push_of_some _ e
  have hold:∀ b o,s₃.heap.get? b=some o→h₁.get? b=some o:=fun b o e=>(hsb₁.2 b (Nat.ne_of_lt (Heap.lt_size e))).trans (Heap.get?_push_of_some _ e)
  have lt2:∀ b∈fp,b<s2.heap.objs.size:=fun b hb=>by
    obtain ⟨o,e,_⟩:=T.obj _ _ st2 b hb
    exact Heap.lt_size e
  have f3:∀ b∈fp,FpOk X pins (upd H2 s2.heap.objs.size (.lst [])) b:=fun b hb=>by
    obtain ⟨z,r⟩:=f2 b hb
    exact ⟨by rw [upd_ne (Nat.ne_of_lt (lt2 b hb))];exact z,r⟩
  have tn1:tn 0 h₁:=T.keep _ _ _ st2 fun b hb o e=>hold b o (k23 b o e)
  have I4:=Inv.comp (own:=own) (caps:=caps) (n:=n) (fp:=fp) (cl:=cl) (h4:=h₁) (tk:=s₃.toks+([]:List (Str × Value)).length) I3 hok hcap hown cl1 cl2 f3 (fun b hb=>by rw [e3];exact Nat.lt_succ_of_lt (lt2 b hb)) rfl (by simpa using hns₁) hold
  have hXok:=I4.ok
  have loop:codeAny (model X.prog X.w) X.A (.compLoop (.ListComp elt [⟨tg,iter,ifs,0⟩] scope pos) 0 (.ref it) (.ref s2.heap.objs.size) (compEnvC scope cl s₃.heap.objs.size X.env)) (RR (.ref s2.heap.objs.size) s₃.heap.objs.size) { s₃ with heap:=h₁,toks:=s₃.toks+([]:List (Str × Value)).length }:=by
    generalize hX:compX X scope own caps cl s₃.heap.objs.size s₃ (upd H2 s2.heap.objs.size (.lst [])) fp=X' at I4 hXok
    have eP:X'.prog=X.prog:=by rw [← hX];rfl
    have eW:X'.w=X.w:=by rw [← hX];rfl
    have eK:X'.K=X.K:=by rw [← hX];rfl
    have eA:X'.A=X.A:=by rw [← hX];rfl
    have eC:X'.calm=true:=by rw [← hX];exact hc
    have eE:X'.env=compEnvC scope cl s₃.heap.objs.size X.env:=by rw [← hX];rfl
    have eL:X'.env.locals=s₃.heap.objs.size:=by rw [eE];rfl
    have eX:X'.xe=fun _ _=>False:=by rw [← hX];rfl
    have ePn:X'.pn=[]:=by rw [← hX];rfl
    have eEx:X'.ex=fp:=by rw [← hX];rfl
    have eFs:X'.fs=frs X.stack:=by rw [← hX];rfl
    have hg':=hg s₃.heap.objs.size s₃ (upd H2 s2.heap.objs.size (.lst []))
    have ht':=ht s₃.heap.objs.size s₃ (upd H2 s2.heap.objs.size (.lst []))
    have he':=he s₃.heap.objs.size s₃ (upd H2 s2.heap.objs.size (.lst []))
    have eS0:X'.s₀=s₃:=by rw [← hX];rfl
    have eH0:X'.H₀=upd H2 s2.heap.objs.size (.lst []):=by rw [← hX];rfl
    rw [hX] at hg' ht' he'
    have fpOk:∀ {H':Hp} (b:Addr),b∈fp→H' b=none→FpOk X' [] H' b:=fun b hb hn=>by
      refine ⟨hn,(hXok.exf b (eEx ▸ hb)).1,hXok.exfs b (eEx ▸ hb),.inl (eEx ▸ hb),(hXok.exf b (eEx ▸ hb)).2,fun p hp=>?_⟩
      rw [ePn] at hp
      cases hp
    rw [← eP,← eW,← eA,← eE]
    refine compLoop_any (fun n' s'=>∃ i H',Inv X' [] (capSt n caps σ) H' s'∧tn i s'.heap∧(∀ b∈fp,H' b=none)∧W i n' H') ?_ m0 ⟨0,_,I4,tn1,fun b hb=>(f3 b hb).1,w0⟩
    rintro k s5 ⟨i,H5,I5,t5,fr5,w5⟩
    have weaken:∀ {σ':St} {H':Hp} {s':Shared} {pl:List (Addr × Obj)},Inv X' pl σ' H' s'→σ'.length=(capSt n caps σ).length→σ'.drop n=(capSt n caps σ).drop n→Inv X' [] (capSt n caps σ) H' s':=fun {σ' H' s' pl} I' hl hd=>by
      have I'':Inv X' [] σ' H' s':=I'.pins_of fun p hp=>by cases hp
      refine I''.weak hl.symm fun j v e=>?_
      have hj:=(capSt_get e).1
      have q1:(σ'.drop n)[j-n]?=σ'[j]?:=by rw [List.getElem?_drop];congr 1;omega
      have q2:((capSt n caps σ).drop n)[j-n]?=(capSt n caps σ)[j]?:=by rw [List.getElem?_drop];congr 1;omega
      rw [← q1,hd,q2]
      exact e
    rcases turn i k H5 w5 with ⟨stop,qn⟩ | ⟨go,step⟩
    · have z:=T.done X' eP eW eK eC i [] s5 (capSt n caps σ) H5 (fun _ _=>False) I5 (fun b hb=>fpOk b hb (fr5 b hb)) t5 stop
      rw [← eP,← eW] at z
      refine thn z fun r s6 ⟨hr,I6⟩=>?_
      subst hr
      obtain ⟨m,hm,_⟩:=I6.loc
      have ub:Un (frs X.stack) fp (upd H2 s2.heap.objs.size (.lst [])) H5 s₃.heap s6.heap:=by
        have z:=I6.base
        rw [eFs,eEx,eS0,eH0] at z
        exact z
      have u23:Un (frs X.stack) fp H2 (upd H2 s2.heap.objs.size (.lst [])) s2.heap s₃.heap:=Un.laid k23 (Nat.le_refl _) I2.fresh
      have os6:s6.os=s2.os:=by
        rw [I6.os,eS0,← hs3]
      have hokk:HOk X.prog X.w H5 s6.heap:=by
        have z:=I6.hok
        rw [eP,eW] at z
        exact z
      have Iend:Inv X pins σ H5 s6:=I2.call' os6 (u23.trans ub) hokk I6.bare fun b hb=>⟨(f2 b hb).2.2.2.1,(f2 b hb).2.1,(f2 b hb).2.2.2.2.1,(f2 b hb).2.2.2.2.2⟩
      have hCn:H5 s₃.heap.objs.size=none:=by
        have z:=I6.free
        rw [eL] at z
        exact z
      rw [eL] at hm
      exact hRR _ _ s6 H5 m hm Iend (I3.fpOk (Nat.le_refl _) hCn) qn
    · have z:=T.item X' eP eW eK eC i [] s5 (capSt n caps σ) H5 (fun _ _=>False) I5 (fun b hb=>fpOk b hb (fr5 b hb)) t5 go
      rw [← eP,← eW] at z
      refine thn z fun r s6 ⟨u,hr,h6⟩=>?_
      subst hr
      refine thn h6 fun _ s7 ⟨x,H7,I7,r7,y7,t7,fr7⟩=>?_
      have I7':=I7.pinned (fun b hb=>fpOk b hb (fr7 b hb)) (T.obj _ _ t7)
      have pinD:∀ {σ':St} {H':Hp} {s':Shared},Inv X' ([]++pinsAt fp s7.heap) σ' H' s'→tn (i+1) s'.heap∧∀ b∈fp,H' b=none:=fun {σ' H' s'} I'=>by
        have pin:∀ b∈fp,∀ o,s7.heap.get? b=some o→s'.heap.get? b=some o∧H' b=none:=fun b hb o e=>by
          have z:=I'.pin (b,o) (List.mem_append_right _ (List.mem_append_right _ (mem_pinsAt hb e)))
          exact ⟨z.1,z.2.1⟩
        refine ⟨T.keep _ _ _ t7 fun b hb o e=>(pin b hb o e).1,fun b hb=>?_⟩
        obtain ⟨o,e,_⟩:=T.obj _ _ t7 b hb
        exact (pin b hb o e).2
      have xf:∀ {α:Type} {t:Sem α} {Q':α→Shared→Prop} {s':Shared},wpAny (model X'.prog X'.w) X'.A t Q' X'.xe s'→wpAny (model X'.prog X'.w) X'.A t Q' (fun _ _=>False) s':=fun z=>by rw [eX] at z;exact z
      refine thn (xf (hg' _ s7 (capSt n caps σ) H7 x u _ I7' r7 (hgo _ _ _ _ (step x H7 y7)))) fun _ s8 ⟨σ8,H8,I8,⟨l8,d8⟩,q8⟩=>?_
      refine thn (xf (ht' _ s8 σ8 H8 _ I8 q8)) fun b s9 ⟨H9,I9,q9⟩=>?_
      cases b with
      | false =>
        rw [if_neg Bool.false_ne_true]
        obtain ⟨m',hm,w9⟩:=(show ∃ m',m'<k∧W (i+1) m' H9 by simpa using q9)
        obtain ⟨t9,fr9⟩:=pinD I9
        exact ⟨m',hm,i+1,H9,weaken I9 l8 d8,t9,fr9,w9⟩
      | true =>
        rw [if_pos rfl]
        rw [if_pos rfl] at q9
        refine thn (xf (he' _ s9 σ8 H9 _ I9 q9)) fun v s10 ⟨y,H10,I10,r10,xs,hD,hlen,m',hm,w10⟩=>?_
        refine thn (xf (mt_append _ s10 σ8 H10 (.ref s2.heap.objs.size) [y] (.ref s2.heap.objs.size) [v] (fun _ H'=>H'=upd H10 s2.heap.objs.size (.lst (xs++[y]))) I10 rfl (.cons r10 .nil) ⟨_,xs,y,rfl,rfl,hD,hlen,rfl⟩)) fun _ s11 ⟨_,H11,I11,_,e11⟩=>?_
        subst e11
        obtain ⟨t11,fr11⟩:=pinD I11
        exact ⟨m',hm,i+1,_,weaken I11 l8 d8,t11,fr11,w10⟩
  exact codeAny_compStart_list loop (T.self _ 0 _ _ _ tn1 loop)
theorem Inv.closure (I:Inv X pins σ H2 s2)(hok:compOk scope X.env.scope=true):∃ cl,closureFor scope X.env=pure cl∧(∀ y c,cl.lookup y=some c→X.env.cells.lookup y=some c)∧∀ y,(y,NameKind.free)∈scope.names→∃ c,cl.lookup y=some c :=
  closure_of fun z hz e=>I.ok.has z.1 (cok_free hok z hz e)
end
section
variable {X:Cx}{tg iter elt:Expr}{ifs:List Expr}{scope:Scope}{pos:Pos}{wi:TI}{g:TG}{tt:TT}{te:TE}{n:Nat}
theorem pe_comp (own:List Str)(caps:List Nat)(hc:X.calm=true)(hi:PI X tg iter wi)(hg:∀ cl C s₃ H₃ fp,PG (compX X scope own caps cl C s₃ H₃ fp) tg g)(ht:∀ cl C s₃ H₃ fp,PTs (compX X scope own caps cl C s₃ H₃ fp) ifs tt)
    (he:∀ cl C s₃ H₃ fp,PE (compX X scope own caps cl C s₃ H₃ fp) elt te) (hcap:capOk X scope caps) (hgo:gOwn own.length g) (hok:compOk scope X.env.scope=true:=by rfl)
    (hs:∀ x,foldedSetIterable iter X.env x=pure x:=by intro _;rfl):PE X (.ListComp elt [⟨tg,iter,ifs,0⟩] scope pos) (tComp own.length caps wi g tt te):=by
  intro pins s σ H Q I h
  obtain ⟨cl,hcl,cl1,cl2⟩:=I.closure hok
  rw [eval_ListComp]
  refine wpAny_comprehension_free (use:=none) rfl hs hcl (cok_kind hok) (cok_loc hok) (thn (hi pins s σ H _ I h) fun v s1 h1=>thn h1 fun itv s2 h2=>?_)
  obtain ⟨it,fp,tn,J,H2,e,I2,T,st2,f2,h3⟩:=h2
  subst e
  refine comp_core (RR:=fun acc C=>compPost (model X.prog X.w) X.A X.xe none (EP X pins σ Q) acc C) (own:=own) (caps:=caps) (n:=own.length) (Q:=Q) hc I2 T st2 f2 hok hcap rfl hgo cl1 cl2 (fun C s₃ H₃=>hg cl C s₃ H₃ fp) (fun C s₃ H₃=>ht cl C s₃ H₃ fp) (fun C s₃ H₃=>he cl C s₃ H₃ fp) h3 ?_
  intro D C s' H' m hm I' hC q
  refine ⟨m,hm,fun h' hsb=>⟨.ref D,H',?_,rfl,q⟩⟩
  exact I'.turned (it:=C) (t':=s'.toks) (fun b o hb e=>(hsb.2 b hb).trans e) hC.1 hC.2.1 hC.2.2.2.1 hC.2.2.2.2.1 hC.2.2.2.2.2
theorem ps_setcomp {i:Nat}{x:Str}{pos' spos:Pos}(own:List Str)(caps:List Nat)(hN:X.N.Nodup)(hx0:X.N[i]?=some x)(hx:Loc X.env.scope x)(hc:X.calm=true)(hi:PI X tg iter wi)(hg:∀ cl C s₃ H₃ fp,PG (compX X scope own caps cl C s₃ H₃ fp) tg g)(ht:∀ cl C s₃ H₃ fp,PTs (compX X scope own caps cl C s₃ H₃ fp) ifs tt)
    (he:∀ cl C s₃ H₃ fp,PE (compX X scope own caps cl C s₃ H₃ fp) elt te) (hcap:capOk X scope caps) (hgo:gOwn own.length g) (hok:compOk scope X.env.scope=true:=by rfl)
    (hs:∀ x,foldedSetIterable iter X.env x=pure x:=by intro _;rfl) (hsw:swapsWith (.ListComp elt [⟨tg,iter,ifs,0⟩] scope pos) (some (.Name x pos')) spos.line X.env=pure true:=by rfl)
    (hf:X.fn x=true∨X.env.scope.names.lookup x=some .local:=by first | exact .inl rfl | exact .inr rfl | assumption):PS X (.Assign [.Name x pos'] (.ListComp elt [⟨tg,iter,ifs,0⟩] scope pos) spos) (tAsg (tComp own.length caps wi g tt te) (gName i)):=by
  intro pins s σ H D I h
  obtain ⟨cl,hcl,cl1,cl2⟩:=I.closure hok
  rw [exec_Assign_Name_used _ _ _ _ hsw]
  refine wpAny_bind (wpAny_standAt (wpAny_bind ?_))
  show wpAny _ _ (do let _ ← comprehension (.ListComp elt [⟨tg,iter,ifs,0⟩] scope pos) scope X.env _ (newList []) false (eval iter X.env) (some (assign (.Name x pos') X.env))) _ _ s
  refine wpAny_bind (wpAny_mono (wpAny_comprehension_free (use:=some (assign (.Name x pos') X.env)) (Q:=fun _ s'=>SP X pins D .next s') rfl hs hcl (cok_kind hok) (cok_loc hok)
    (thn (hi pins s σ H _ I h) fun v s1 h1=>thn h1 fun itv s2 h2=>?_)) (fun _ s' hq=>wpAny_pure (wpAny_pure hq)) fun _ _ e=>e)
  obtain ⟨it,fp,tn,J,H2,e,I2,T,st2,f2,h3⟩:=h2
  subst e
  refine comp_core (RR:=fun acc C=>compPost (model X.prog X.w) X.A X.xe (some (assign (.Name x pos') X.env)) (fun _ s'=>SP X pins D .next s') acc C) (own:=own) (caps:=caps) (n:=own.length) (Q:=fun x H1=>gName i x σ H1 D.nx) hc I2 T st2 f2 hok hcap rfl hgo cl1 cl2 (fun C s₃ H₃=>hg cl C s₃ H₃ fp) (fun C s₃ H₃=>ht cl C s₃ H₃ fp) (fun C s₃ H₃=>he cl C s₃ H₃ fp) h3 ?_
  intro A' C s' H' m hm I' hC q
  obtain ⟨o,es,ep,ho,hd,r⟩:=id hm
  have I'':Inv X (pins++[(C,o)]) σ H' s':=I'.pins_of fun p hp=>by
    rcases List.mem_append.mp hp with z | z
    · exact I'.pin p (List.mem_append_right _ z)
    · have e:p=(C,o):=by simpa using z
      subst e
      exact ⟨ho,hC.1,hC.2.1,hC.2.2.1,fun v e=>by rw [hd] at e;cases e⟩
  refine thn (pg_name hN hx0 hx hf _ s' σ H' (.ref A') (.ref A') _ I'' rfl q) fun _ s2' ⟨σ2,H3',I3,q3⟩=>?_
  have p3:=I3.pin (C,o) (List.mem_append_right _ (List.mem_append_right _ (by simp)))
  refine ⟨m,⟨o,es,ep,p3.1,hd,r⟩,fun h' hsb=>⟨σ2,H3',?_,q3⟩⟩
  exact (I3.unpinned (pl:=[(C,o)])).turned (it:=C) (t':=s2'.toks) (fun b o hb e=>(hsb.2 b hb).trans e) p3.2.1 p3.2.2.1 hC.2.2.2.1 hC.2.2.2.2.1 hC.2.2.2.2.2
end
end L2
namespace L2
open PySem PySem.Spec PyProof.Rows
theorem boot_isi:bootBuiltins "isinstance"=some (.builtin "isinstance"):=by decide +kernel
theorem boot_minB:bootBuiltins "min"=some (.builtin "min"):=by decide +kernel
section
variable {X:Cx}
def vOf:V→Option Value
  | .ty n=>some (.type n)
  | .ref a=>some (.ref a)
  | _=>none
def rIsi (K:PySem.W.Frag):List V→Hp→VK→Prop:=fun xs H Q=>∃ x y c t b,xs=[x,y]∧vOf y=some c∧TyOf K H x t∧PySem.W.kitOne K t c=some b∧Q (.bl b) H
theorem call_isi:CallR X (.builtin "isinstance") (rIsi X.K):=by
  intro pins s σ H xs us Q I r h
  obtain ⟨x,y,c,t,b,rfl,hy,ht,hk,q⟩:=h
  obtain ⟨u,v,rfl,ru,rv⟩:=r.two
  have ev:v=c:=by
    cases y with
    | ty n=>cases (show v=Value.type n from rv);exact Option.some.inj hy
    | ref a=>cases (show v=Value.ref a from rv);exact Option.some.inj hy
    | _=>cases hy
  subst ev
  exact isinst_ok I ru ht hk fun tk=>⟨.bl b,H,I.tok _,rfl,q⟩
theorem intBits_le_of {a:Int}{k:Nat}(h:a.natAbs<2^k):Builtin.Int.intBits a≤k:=by
  unfold Builtin.Int.intBits
  split
  · exact Nat.zero_le _
  · rename_i hz
    have h0:a.natAbs≠0:=by
      intro e
      have:a=0:=by omega
      subst this
      exact hz rfl
    have:=(Nat.log2_lt h0).mpr h
    omega
def CShl (i j:Int):Prop:=0≤j∧j≤1000000∧i.natAbs<2^1000
theorem op_shlB:OpR X (binaryOp .LShift) (rI CShl fun i j=>.int (i*2^j.toNat)):=opI fun i j _ _ _ _ _ hc q=>by
  have h1:=intBits_le_of hc.2.2
  have h2:=hc.2.1
  exact lshift_int hc.1 (by omega) q
end
def LoopJ (J:It)(g:TG)(tb:TS)(D:Ends)(σ:St)(H:Hp):Prop:=∃ W:Nat→Nat→St→Hp→Prop,(∃ m,W 0 m σ H)∧∀ i m σ H,W i m σ H →
  (J.stop i H∧D.nx σ H)∨(J.go i H∧∃ N:St→Hp→Prop,(∀ σ' H',N σ' H'→∃ m',m'<m∧W (i+1) m' σ' H')∧∀ x H',J.yld i H x H'→g x σ H' fun σ2 H2=>tb { D with nx:=N,ct:=N,bk:=D.nx } σ2 H2)
theorem tFor_ap {wi:TI}{g:TG}{tb:TS}{D:Ends}{σ:St}{H:Hp}:tFor wi g tb D σ H=wi σ H fun J H1=>LoopJ J g tb D σ H1:=rfl
theorem loopR {lo:Int}{n:Nat}{g:TG}{tb:TS}{D:Ends}{σ:St}{H:Hp}(Pv:Nat→St→Hp→Prop)(h0:Pv 0 σ H)
    (hs:∀ i σ H,i<n→Pv i σ H→g (.int (lo+i)) σ H fun σ2 H2=>tb { D with nx:=Pv (i+1),ct:=Pv (i+1),bk:=D.nx } σ2 H2) (hd:∀ σ H,Pv n σ H→D.nx σ H):LoopJ (Itr lo n) g tb D σ H:=for_range Pv h0 hs hd
theorem loopL {K:PySem.W.Frag}{a:Addr}{xs:List V}{g:TG}{tb:TS}{D:Ends}{σ:St}{H:Hp}(Pv:Nat→St→Hp→Prop)(h0:Pv 0 σ H)(hl:∀ i σ H,i≤xs.length→Pv i σ H→SqL K H a xs)
    (hs:∀ i x σ H,xs[i]?=some x→Pv i σ H→g x σ H fun σ2 H2=>tb { D with nx:=Pv (i+1),ct:=Pv (i+1),bk:=D.nx } σ2 H2) (hd:∀ σ H,Pv xs.length σ H→D.nx σ H):LoopJ (Itl K a) g tb D σ H:=for_list Pv h0 hl hs hd
def CompJ (J:It) (n:Nat) (caps:List Nat) (g:TG) (tt:TT) (te:TE) (σ:St) (H1:Hp) (Q:VK):Prop:=∀ D,H1 D=none→∃ W:Nat→Nat→Hp→Prop,(∃ m,W 0 m (upd H1 D (.lst [])))∧∀ i m H2,W i m H2 →
  (J.stop i H2∧Q (.ref D) H2)∨(J.go i H2∧∀ x H3,J.yld i H2 x H3→g x (capSt n caps σ) H3 fun σ4 H4=>tt σ4 H4 fun b H5 =>
    if b=true then te σ4 H5 fun y H6=>∃ xs,H6 D=some (.lst xs)∧xs.length<sizeLine∧∃ m',m'<m∧W (i+1) m' (upd H6 D (.lst (xs++[y]))) else ∃ m',m'<m∧W (i+1) m' H5)
theorem tComp_ap {n:Nat}{caps:List Nat}{wi:TI}{g:TG}{tt:TT}{te:TE}{σ:St}{H:Hp}{Q:VK}:tComp n caps wi g tt te σ H Q=wi σ H fun J H1=>CompJ J n caps g tt te σ H1 Q:=rfl
theorem compPure {J:It} {m n:Nat} {caps:List Nat} {g:TG} {tt:TT} {te:TE} {σ:St} {H1:Hp} {Q:VK} (x:Nat→V) (p:Nat→Bool) (f:Nat→V) (hn:n≤1000000)
    (hstop:∀ H2,Same H1 H2→J.stop n H2) (hgo:∀ i H2,i<n→Same H1 H2→J.go i H2) (hy:∀ i H2 v H3,i<n→Same H1 H2→J.yld i H2 v H3→v=x i∧H3=H2)
    (hg:∀ i H2 R,i<n→Same H1 H2→(∀ σ4,σ4=(capSt m caps σ).set 0 (some (x i))→R σ4 H2)→g (x i) (capSt m caps σ) H2 R)
    (ht:∀ i H2 R,i<n→Same H1 H2→R (p i) H2→tt ((capSt m caps σ).set 0 (some (x i))) H2 R)
    (he:∀ i H2 R,i<n→p i=true→Same H1 H2→R (f i) H2→te ((capSt m caps σ).set 0 (some (x i))) H2 R)
    (hq:∀ D,H1 D=none→Q (.ref D) (upd H1 D (.lst (((List.range n).filter p).map f)))):CompJ J m caps g tt te σ H1 Q:=by
  intro D hD
  have same:∀ l,Same H1 (upd H1 D (.lst l)):=fun l b o e=>by rw [upd_ne (ne_of_none e hD)];exact e
  refine ⟨fun i k H2=>k=n-i∧i≤n∧H2=upd H1 D (.lst (((List.range i).filter p).map f)),⟨n,rfl,Nat.zero_le _,rfl⟩,?_⟩
  rintro i k H2 ⟨rfl,hi,rfl⟩
  by_cases hlt:i<n
  · refine .inr ⟨hgo i _ hlt (same _),fun v H3 y=>?_⟩
    obtain ⟨rfl,rfl⟩:=hy i _ v H3 hlt (same _) y
    refine hg i _ _ hlt (same _) fun σ4 e4=>?_
    subst e4
    refine ht i _ _ hlt (same _) ?_
    have step:(List.range (i+1)).filter p=(List.range i).filter p++if p i=true then [i] else []:=by
      rw [List.range_succ,List.filter_append]
      congr 1
      cases hp:p i<;>simp [hp]
    cases hp:p i with
    | true =>
      rw [if_pos rfl]
      refine he i _ _ hlt hp (same _) ⟨_,upd_same,?_,n-(i+1),by omega,rfl,hlt,?_⟩
      · rw [List.length_map]
        refine Nat.lt_of_le_of_lt (List.length_filter_le _ _) ?_
        rw [List.length_range,sizeLine_eq]
        omega
      · rw [upd_upd,step,hp,if_pos rfl,List.map_append]
        rfl
    | false =>
      rw [if_neg Bool.false_ne_true]
      refine ⟨n-(i+1),by omega,rfl,hlt,?_⟩
      rw [step,hp,if_neg Bool.false_ne_true,List.append_nil]
  · have e:i=n:=by omega
    subst e
    exact .inl ⟨hstop _ (same _),hq D hD⟩
theorem compR {lo:Int}{m n:Nat}{caps:List Nat}{tt:TT}{te:TE}{σ:St}{H1:Hp}{Q:VK}(p:Nat→Bool)(f:Nat→V)(hn:n≤1000000)
    (ht:∀ i H2 R,i<n→Same H1 H2→R (p i) H2→tt ((capSt m caps σ).set 0 (some (.int (lo+i)))) H2 R)
    (he:∀ i H2 R,i<n→p i=true→Same H1 H2→R (f i) H2→te ((capSt m caps σ).set 0 (some (.int (lo+i)))) H2 R)
    (hq:∀ D,H1 D=none→Q (.ref D) (upd H1 D (.lst (((List.range n).filter p).map f)))):CompJ (Itr lo n) m caps (gName 0) tt te σ H1 Q :=
  compPure (fun i=>.int (lo+i)) p f hn (fun _ _=>Nat.le_refl _) (fun _ _ h _=>h) (fun _ _ _ _ _ _ h=>⟨h.2,h.1⟩) (fun _ _ _ _ _ h=>h _ rfl) ht he hq
theorem range_filter_map {α β:Type}(p:α→Bool)(f:α→β):∀ (xs:List α) (P:Nat→Bool) (F:Nat→β),(∀ i x,xs[i]?=some x→P i=p x∧F i=f x)→((List.range xs.length).filter P).map F=(xs.filter p).map f
  | [],_,_,_=>rfl
  | x::r,P,F,h=>by
    have e:List.range (x::r).length=0::(List.range r.length).map Nat.succ:=by rw [List.length_cons,List.range_succ_eq_map]
    have ih:=range_filter_map p f r (P ∘ Nat.succ) (F ∘ Nat.succ) fun i y hy=>h (i+1) y (by simpa using hy)
    obtain ⟨h1,h2⟩:=h 0 x rfl
    rw [e,List.filter_cons,List.filter_cons,h1,List.filter_map]
    split
    · rw [List.map_cons,List.map_cons,h2,List.map_map,ih]
    · rw [List.map_map,ih]
theorem compL {K:PySem.W.Frag}{a:Addr}{xs:List V}{m:Nat}{caps:List Nat}{tt:TT}{te:TE}{σ:St}{H1:Hp}{Q:VK}(p:V→Bool)(f:V→V)(hS:SqL K H1 a xs)(hn:xs.length≤1000000)
    (ht:∀ x H2 R,x∈xs→Same H1 H2→R (p x) H2→tt ((capSt m caps σ).set 0 (some x)) H2 R)
    (he:∀ x H2 R,x∈xs→p x=true→Same H1 H2→R (f x) H2→te ((capSt m caps σ).set 0 (some x)) H2 R)
    (hq:∀ D,H1 D=none→Q (.ref D) (upd H1 D (.lst ((xs.filter p).map f)))):CompJ (Itl K a) m caps (gName 0) tt te σ H1 Q:=by
  have get:∀ i,i<xs.length→xs[i]?=some (xs.getD i .non):=fun i hi=>by rw [List.getD_eq_getElem?_getD,List.getElem?_eq_getElem hi];rfl
  have mem:∀ i,i<xs.length→xs.getD i .non∈xs:=fun i hi=>List.mem_of_getElem? (get i hi)
  refine compPure (fun i=>xs.getD i .non) (fun i=>p (xs.getD i .non)) (fun i=>f (xs.getD i .non)) hn (fun H2 s=>⟨xs,s.seq hS,Nat.le_refl _⟩) (fun i H2 hi s=>⟨xs,_,s.seq hS,get i hi⟩)
    (fun i H2 v H3 hi s y=>⟨?_,y.1⟩) (fun i H2 R hi _ h=>h _ rfl) (fun i H2 R hi s h=>ht _ H2 R (mem i hi) s h) (fun i H2 R hi hp s h=>he _ H2 R (mem i hi) hp s h) (fun D hD=>?_)
  · have:=y.2 xs (s.seq hS)
    rw [get i hi] at this
    exact (Option.some.inj this).symm
  · have:=range_filter_map p f xs (fun i=>p (xs.getD i .non)) (fun i=>f (xs.getD i .non)) fun i x hx=>by
      have:xs.getD i .non=x:=by rw [List.getD_eq_getElem?_getD,hx];rfl
      rw [this]
      exact ⟨rfl,rfl⟩
    rw [this]
    exact hq D hD
section
variable {D:Ends}{σ:St}{H:Hp}{Q:VK}{QT:Bool→Hp→Prop}{QA:List V→Hp→Prop}{ta tb tc:TE}{t u:TS}{tA tB':TT}{te:TE}{tl:TA}{r r':R2}
theorem tSeq_ap:tSeq t u D σ H=t { D with nx:=u D } σ H:=rfl
theorem tNext_ap:tNext D σ H=D.nx σ H:=rfl
theorem tAsg_ap {g:TG}:tAsg te g D σ H=te σ H fun x H1=>g x σ H1 D.nx:=rfl
theorem gName_ap {i:Nat}{v:V}{R:St→Hp→Prop}:gName i v σ H R=R (σ.set i (some v)) H:=rfl
theorem tVar_ap {i:Nat}:tVar i σ H Q=∃ v,σ[i]?=some (some v)∧Q v H:=rfl
theorem tC_ap {v:V}:tC v σ H Q=Q v H:=rfl
theorem tOp_ap:tOp r ta tb σ H Q=ta σ H fun x H1=>tb σ H1 fun y H2=>r x y H2 Q:=rfl
theorem tUn_ap {r:V→Hp→VK→Prop}:tUn r ta σ H Q=ta σ H fun x H1=>r x H1 Q:=rfl
theorem rI_ap {C:Int→Int→Prop}{g:Int→Int→V}{x y:V}:rI C g x y H Q=∃ i j,x=.int i∧y=.int j∧C i j∧Q (g i j) H:=rfl
theorem rI0_ap {g:Int→Int→V}{x y:V}:rI0 g x y H Q=∃ i j,x=.int i∧y=.int j∧Q (g i j) H:=rfl
theorem rU_ap {g:Int→V}{x:V}:rU g x H Q=∃ i,x=.int i∧Q (g i) H:=rfl
theorem rEq_ap {x y:V}:rEq x y H Q=(scal x y=true∧Q (.bl (decide (x=y))) H):=rfl
theorem rNe_ap {x y:V}:rNe x y H Q=(scal x y=true∧Q (.bl (!decide (x=y))) H):=rfl
theorem scal_ii {i j:Int}:scal (.int i) (.int j)=true:=rfl
theorem scal_bb {i j:Bool}:scal (.bl i) (.bl j)=true:=rfl
theorem scal_ss {i j:Str}:scal (.str i) (.str j)=true:=rfl
theorem tRet_ap:tRet te D σ H=te σ H D.rt:=rfl
theorem tDrop_ap:tDrop te D σ H=te σ H fun _ H1=>D.nx σ H1:=rfl
theorem tIfS_ap:tIfS tA t u D σ H=tA σ H fun b H1=>if b=true then t D σ H1 else u D σ H1:=rfl
theorem tTest_ap:tTest te σ H QT=te σ H fun x H'=>∃ k,x=.bl k∧QT k H':=rfl
theorem tB_ap:tB te σ H QT=te σ H fun x H1=>∃ c,x=.bl c∧QT c H1:=rfl
theorem tAnd_ap:tAnd tA tB' σ H QT=tA σ H fun c H1=>if c=true then tB' σ H1 QT else QT false H1:=rfl
theorem tOr_ap:tOr tA tB' σ H QT=tA σ H fun c H1=>if c=true then QT true H1 else tB' σ H1 QT:=rfl
theorem tNot_ap:tNot tA σ H QT=tA σ H fun c H1=>QT (!c) H1:=rfl
theorem tAndV_ap:tAndV ta tb σ H Q=ta σ H fun x H1=>∃ c,x=.bl c∧if c=true then tb σ H1 Q else Q (.bl false) H1:=rfl
theorem tNotV_ap:tNotV ta σ H Q=ta σ H fun x H1=>∃ c,x=.bl c∧Q (.bl (!c)) H1:=rfl
theorem tIf_ap:tIf tA ta tb σ H Q=tA σ H fun c H1=>if c=true then ta σ H1 Q else tb σ H1 Q:=rfl
theorem tCall_ap {sp:Sp}{dvs:List V}{E:XK}:tCall sp dvs E tl σ H Q=tl σ H fun vs H1=>sp (vs++dvs) H1 Q E:=rfl
theorem tNil_ap:tNil σ H QA=QA [] H:=rfl
theorem tCons_ap:tCons ta tl σ H QA=ta σ H fun x H1=>tl σ H1 fun xs H2=>QA (x::xs) H2:=rfl
theorem tTup_ap:tTup tl σ H Q=tl σ H fun xs H1=>xs.length≤sizeLine∧∀ p,H1 p=none→Q (.ref p) (upd H1 p (.tup xs)):=rfl
theorem tLst_ap:tLst tl σ H Q=tl σ H fun xs H1=>xs.length≤sizeLine∧∀ p,H1 p=none→Q (.ref p) (upd H1 p (.lst xs)):=rfl
theorem tCB_ap {r:List V→Hp→VK→Prop}:tCB r tl σ H Q=tl σ H fun vs H1=>r vs H1 Q:=rfl
theorem tBM_ap {K:PySem.W.Frag}{T:String}{r:V→List V→Hp→VK→Prop}:tBM K T r te tl σ H Q=te σ H fun x H1=>tyV K T x H1∧tl σ H1 fun xs H2=>r x xs H2 Q:=rfl
theorem tBM0_ap {K:PySem.W.Frag}{T:String}{r:V→List V→Hp→VK→Prop}:tBM0 K T r te σ H Q=te σ H fun x H1=>tyV K T x H1∧r x [] H1 Q:=rfl
theorem tyV_int {K:PySem.W.Frag}{i:Int}:tyV K "int" (.int i) H:=rfl
theorem tyV_list {K:PySem.W.Frag}{p:Addr}:tyV K "list" (.ref p) H↔∃ xs,SqL K H p xs:=by
  unfold tyV
  simp
theorem rIxL_ap {K:PySem.W.Frag}{x y:V}:rIxL K x y H Q=∃ p xs i v,x=.ref p∧y=.int i∧SqL K H p xs∧atI xs i=some v∧Q v H:=rfl
theorem rIxT_ap {K:PySem.W.Frag}{x y:V}:rIxT K x y H Q=∃ p xs i v,x=.ref p∧y=.int i∧SqT K H p xs∧atI xs i=some v∧Q v H:=rfl
theorem rIxS_ap {x y:V}:rIxS x y H Q=∃ z i c,x=.str z∧y=.int i∧z.length≤sizeLine∧atI z.cps.toList i=some c∧Q (.str ⟨#[c]⟩) H:=rfl
theorem rAppend_ap {x:V}{vs:List V}:rAppend x vs H Q=∃ l xs y,x=.ref l∧vs=[y]∧H l=some (.lst xs)∧xs.length<sizeLine∧Q .non (upd H l (.lst (xs++[y]))):=rfl
theorem rCat_ap {x y:V}:rCat x y H Q=∃ l b xs zs,x=.ref l∧y=.ref b∧H l=some (.lst xs)∧H b=some (.lst zs)∧xs.length+zs.length≤sizeLine∧∀ p,H p=none→Q (.ref p) (upd H p (.lst (xs++zs))):=rfl
theorem rRep_ap {x y:V}:rRep x y H Q=∃ l k xs,x=.ref l∧y=.int k∧H l=some (.lst xs)∧-(2^63)≤k∧k<2^63∧xs.length*k.toNat≤sizeLine∧∀ p,H p=none→Q (.ref p) (upd H p (.lst (List.replicate k.toNat xs).flatten)):=rfl
theorem iRng1_ap {R:It→Hp→Prop}:iRng1 tl σ H R=tl σ H fun vs H1=>∃ j:Int,vs=[.int j]∧-(2^62)≤j∧j<2^62∧R (Itr 0 j.toNat) H1:=rfl
theorem iList_ap {K:PySem.W.Frag}{R:It→Hp→Prop}:iList K te σ H R=te σ H fun x H1=>∃ a,x=.ref a∧(∃ xs,SqL K H1 a xs)∧R (Itl K a) H1:=rfl
theorem tNoTest_ap:tNoTest σ H QT=QT true H:=rfl
theorem rIsi_int {K:PySem.W.Frag}{i:Int}:rIsi K [.int i,.ty "int"] H Q↔Q (.bl true) H :=
  ⟨fun ⟨x,y,c,t,b,e,hy,ht,hk,q⟩=>by
    cases e
    cases hy
    cases ht
    cases hk
    exact q,fun q=>⟨_,_,_,_,true,rfl,rfl,.int i,rfl,q⟩⟩
theorem rIsi_intb {K:PySem.W.Frag}{i:Int}:rIsi K [.int i,.ty "bool"] H Q↔Q (.bl false) H :=
  ⟨fun ⟨x,y,c,t,b,e,hy,ht,hk,q⟩=>by
    cases e
    cases hy
    cases ht
    cases hk
    exact q,fun q=>⟨_,_,_,_,false,rfl,rfl,.int i,rfl,q⟩⟩
theorem rIsi_blb {K:PySem.W.Frag}{k:Bool}:rIsi K [.bl k,.ty "bool"] H Q↔Q (.bl true) H :=
  ⟨fun ⟨x,y,c,t,b,e,hy,ht,hk,q⟩=>by
    cases e
    cases hy
    cases ht
    cases hk
    exact q,fun q=>⟨_,_,_,_,true,rfl,rfl,.bl k,rfl,q⟩⟩
theorem rIsi_bli {K:PySem.W.Frag}{k:Bool}:rIsi K [.bl k,.ty "int"] H Q↔Q (.bl true) H :=
  ⟨fun ⟨x,y,c,t,b,e,hy,ht,hk,q⟩=>by
    cases e
    cases hy
    cases ht
    cases hk
    exact q,fun q=>⟨_,_,_,_,true,rfl,rfl,.bl k,rfl,q⟩⟩
end
end L2
namespace L2
open PySem PySem.Spec PyProof.Rows
def FnAt (P:Program)(w:World)(K:PySem.W.Frag)(mg:Str→Option Value)(base:Heap)(x:Str)(ps:List Str)(k:Nat)(sp:Sp):Prop :=
  ∃ f fd,FnOk P w K mg base CX0 k f fd ps sp∧mg x=some (.ref f)∧PySem.W.keepIn K (.ref f)=true∧Binds K fd ps []
def DefAt (K:PySem.W.Frag)(mg:Str→Option Value)(x:Str)(st:Stmt)(ps:List Str):Prop:=∃ f fd,Fun K x x st f fd∧mg x=some (.ref f)∧Binds K fd ps []
section
variable {P:Program}{w:World}{K:PySem.W.Frag}{mg:Str→Option Value}{base:Heap}
theorem FnAt.of {x:Str}{st:Stmt}{N ps:List Str}{k:Nat}{sp:Sp}(d:DefAt K mg x st ps)(S:FnScope N ps (defScope st))(len:∀ vs H Q E,sp vs H Q E→vs.length=ps.length)
    (hbody:∀ (f:Addr) (cdv:Value) (A:Around) (outer:List Env) (s:Shared) (H:Hp) (vs:List V) (Q:VK) (E:XK),Room k (A.deeper (envOfC x (defScope st) s.heap.objs.size f cdv))→sp vs H Q E →
      ∃ t,PSs (cxOf CX0 P w K mg base N x (defScope st) f cdv A outer s H E).nox (defBody st) t∧t { nx:=fun _ H'=>Q .non H',rt:=Q } (start N vs) H):FnAt P w K mg base x ps (k+1) sp:=by
  obtain ⟨f,fd,F,m,b⟩:=d
  exact ⟨f,fd,F.ok S len (hbody f),m,F.kp,b⟩
theorem defAt_mk {h:Heap}{x:Str}{st:Stmt}{ps:List Str}{f:Addr}{oc:Value}{od an:Option Addr}{osl:Array (Option Value)}{kV doc pm cdv ct:Value}(X:K.In h)(G:h.Ns mainGlobals mg)(a:PySem.W.nsIn K mainGlobals x=some (some (.ref f)))
    (l:K.lookup f=some ⟨oc,od,.func (PySem.W.fnOf x x (defArgs st) (defBody st) (defScope st) .none kV doc pm an cdv ct),osl⟩) (c:PySem.W.codeIn K cdv x=true) (k:PySem.W.keepIn K (.ref f)=true)
    (hb:∀ (kV doc pm:Value) (an:Option Addr) (cdv ct:Value) (us:List Value),us.length=ps.length→bindArgs (PySem.W.fnOf x x (defArgs st) (defBody st) (defScope st) .none kV doc pm an cdv ct) ⟨us,[]⟩=pure (ps.zip us)):DefAt K mg x st ps :=
  ⟨f,_,fun_mk l c k,PySem.W.mg_of X G a,(fun_mk l c k).binds hb⟩
end
section
variable {X:Cx}{x:Str}{ps:List Str}{k:Nat}{sp:Sp}{e:Expr}{es:List Expr}{t:TA}{p pos:Pos}
theorem pe_callF (F:FnAt X.prog X.w X.K X.mg X.base x ps k sp)(hr:Room k X.A)(hg:Gl X x)(ha:PA X (e::es) t)
    (he:starEach (e::es) X.env=(false,eval e X.env)::starEach es X.env:=by rfl) (hdb:(x==("__debug__":Str))=false:=by decide) (hpl:(backTo pos (starEach es X.env)).any (·.1)=false:=by rfl):PE X (.Call (.Name x p) (e::es) [] pos) (tCall sp [] E0 t):=by
  obtain ⟨f,fd,G,m,kp,b⟩:=F
  exact pe_call G hr hg m kp b .nil pass0 ha hdb he hpl
end
section
variable {X:Cx}
def rLen (K:PySem.W.Frag):List V→Hp→VK→Prop:=fun xs H Q=>∃ p ys,xs=[.ref p]∧(SqL K H p ys∨SqT K H p ys)∧Q (.int ys.length) H
def rListOf (K:PySem.W.Frag):List V→Hp→VK→Prop:=fun xs H Q=>∃ p ys,xs=[.ref p]∧(SqL K H p ys∨SqT K H p ys)∧∀ l,H l=none→Q (.ref l) (upd H l (.lst ys))
theorem ix_listK (K:PySem.W.Frag)(h:X.K=K:=by rfl):IxR X (rIxL K):=h ▸ ix_list
theorem ix_tupK (K:PySem.W.Frag)(h:X.K=K:=by rfl):IxR X (rIxT K):=h ▸ ix_tup
theorem call_isiK (K:PySem.W.Frag)(h:X.K=K:=by rfl):CallR X (.builtin "isinstance") (rIsi K):=h ▸ call_isi
theorem call_lenK (K:PySem.W.Frag)(h:X.K=K:=by rfl):CallR X (.builtin "len") (rLen K):=by subst h;exact call_len_seq
theorem call_listK (K:PySem.W.Frag)(h:X.K=K:=by rfl):CallR X (.type "list") (rListOf K):=by subst h;exact call_list_of
theorem op_inK (K:PySem.W.Frag)(h:X.K=K:=by rfl):OpR X (compareOp .In) (rIn K false):=h ▸ op_in_seq
theorem op_notInK (K:PySem.W.Frag)(h:X.K=K:=by rfl):OpR X (compareOp .NotIn) (rIn K true):=h ▸ op_notIn_seq
theorem rLen_ap {K:PySem.W.Frag}{xs:List V}{H:Hp}{Q:VK}:rLen K xs H Q=∃ p ys,xs=[.ref p]∧(SqL K H p ys∨SqT K H p ys)∧Q (.int ys.length) H:=rfl
theorem rListOf_ap {K:PySem.W.Frag}{xs:List V}{H:Hp}{Q:VK}:rListOf K xs H Q=∃ p ys,xs=[.ref p]∧(SqL K H p ys∨SqT K H p ys)∧∀ l,H l=none→Q (.ref l) (upd H l (.lst ys)):=rfl
theorem rIn_ap {K:PySem.W.Frag}{neg:Bool}{x y:V}{H:Hp}{Q:VK}:rIn K neg x y H Q=∃ p xs,y=.ref p∧(SqL K H p xs∨SqT K H p xs)∧flatV x=true∧xs.all flatV=true∧Q (.bl (if neg then !inV x xs else inV x xs)) H:=rfl
end
section
variable {X:Cx}{tg l o e:Expr}{es:List Expr}{tl to:TE}{t:TA}{name:Str}{apos cpos:Pos}{T id:String}{r:V→List V→Hp→VK→Prop}
theorem pi_listK (K:PySem.W.Frag)(hl:PE X l tl)(h:X.K=K:=by rfl):PI X tg l (iList K tl):=h ▸ pi_list hl
theorem pe_bmK (K:PySem.W.Frag)(pa:PlainAttrs T)(slot:Slot T name id)(hty:typeOf (.builtin id)=pure (.type "method_descriptor"))(hm:MtR X id r)(ho:PE X o to)(ha:PA X (e::es) t)(hK:X.K=K:=by rfl)
    (hbase:attributeBase o name X.env (eval o X.env)=eval o X.env:=by rfl)
    (hfew:((backTo cpos (starEach (e::es) X.env)).all (fun x=>!x.1)&&(backToKw cpos (keywordEach [] X.env)).all (fun x=>x.1.isSome)
      && decide ((e::es).length+([]:List Keyword).length+(if ([]:List Keyword).isEmpty then 0 else 1)<30))=true:=by rfl)
    (hline:(apos.endLine==cpos.line)=true:=by rfl) (hs:starEach (e::es) X.env=(false,eval e X.env)::starEach es X.env:=by rfl) (hplain:(backTo cpos (starEach es X.env)).any (·.1)=false:=by rfl) :
    PE X (.Call (.Attribute o name apos) (e::es) [] cpos) (tBM K T r to t):=hK ▸ pe_bm pa slot hty hm ho ha hbase hfew hline hs hplain
theorem pe_bm0K (K:PySem.W.Frag)(pa:PlainAttrs T)(slot:Slot T name id)(hty:typeOf (.builtin id)=pure (.type "method_descriptor"))(hm:MtR X id r)(ho:PE X o to)(hK:X.K=K:=by rfl)
    (hbase:attributeBase o name X.env (eval o X.env)=eval o X.env:=by rfl) (hline:(apos.endLine==cpos.line)=true:=by rfl):PE X (.Call (.Attribute o name apos) [] [] cpos) (tBM0 K T r to):=hK ▸ pe_bm0 pa slot hty hm ho hbase hline
end
section
variable {X:Cx}{st:Stmt}{rest:List Stmt}{t u:TS}
end
theorem rep0:List.replicate 0 (none:Option V)=[]:=rfl
theorem rep1:List.replicate 1 (none:Option V)=[none]:=rfl
theorem rep2:List.replicate 2 (none:Option V)=[none,none]:=rfl
theorem rep3:List.replicate 3 (none:Option V)=[none,none,none]:=rfl
theorem rep4:List.replicate 4 (none:Option V)=[none,none,none,none]:=rfl
theorem rep5:List.replicate 5 (none:Option V)=[none,none,none,none,none]:=rfl
theorem rep6:List.replicate 6 (none:Option V)=[none,none,none,none,none,none]:=rfl
theorem rep7:List.replicate 7 (none:Option V)=[none,none,none,none,none,none,none]:=rfl
theorem rep8:List.replicate 8 (none:Option V)=[none,none,none,none,none,none,none,none]:=rfl
theorem rep9:List.replicate 9 (none:Option V)=[none,none,none,none,none,none,none,none,none]:=rfl
theorem rep10:List.replicate 10 (none:Option V)=[none,none,none,none,none,none,none,none,none,none]:=rfl
theorem rep11:List.replicate 11 (none:Option V)=[none,none,none,none,none,none,none,none,none,none,none]:=rfl
end L2
namespace L2
open PySem PySem.Spec PyProof.Rows
mutual
inductive RdD (K:PySem.W.Frag) (H:Hp):V→PyData→Prop
  | non:RdD K H .non .none
  | bl (b:Bool):RdD K H (.bl b) (.bool b)
  | int (i:Int):RdD K H (.int i) (.int i)
  | str (x:Str):RdD K H (.str x) (.str x)
  | lst {a:Addr} {xs:List V} {ds:List PyData} (h:SqL K H a xs) (r:RdDs K H xs ds):RdD K H (.ref a) (.list ds)
  | tup {a:Addr} {xs:List V} {ds:List PyData} (h:SqT K H a xs) (r:RdDs K H xs ds):RdD K H (.ref a) (.tuple ds)
inductive RdDs (K:PySem.W.Frag) (H:Hp):List V→List PyData→Prop
  | nil:RdDs K H [] []
  | cons {x:V} {d:PyData} {xs:List V} {ds:List PyData} (h:RdD K H x d) (r:RdDs K H xs ds):RdDs K H (x::xs) (d::ds)
end
section
variable {X:Cx}{pins:List (Addr × Obj)}{σ:St}{H:Hp}{s:Shared}
mutual
theorem Inv.rd (I:Inv X pins σ H s):∀ {x:V} {d:PyData},RdD X.K H x d→∀ {u:Value},RelV x u→∃ as,Reads s.heap u d as
  | _,_,.non,_,r=>by cases r;exact ⟨_,.none⟩
  | _,_,.bl b,_,r=>by cases r;exact ⟨_,.bool b⟩
  | _,_,.int i,_,r=>by obtain ⟨t,rfl⟩:=r;exact ⟨_,.int i t⟩
  | _,_,.str x,_,r=>by obtain ⟨t,rfl⟩:=r;exact ⟨_,.str x t⟩
  | _,_,.lst h rs,_,r=>by
    cases r
    obtain ⟨its,rv,pl,_⟩:=I.list h
    obtain ⟨as,q⟩:=Inv.rds I rs rv
    obtain ⟨o,ho,hc,n,hd⟩:=pl.isList
    exact ⟨_,.list ho hc hd (by simpa using q)⟩
  | _,_,.tup h rs,_,r=>by
    cases r
    obtain ⟨its,rv,pl,_⟩:=I.tuple h
    obtain ⟨as,q⟩:=Inv.rds I rs rv
    obtain ⟨o,ho,hc,n,hd⟩:=pl
    exact ⟨_,.tuple ho hc hd (by simpa using q)⟩
theorem Inv.rds (I:Inv X pins σ H s):∀ {xs:List V} {ds:List PyData},RdDs X.K H xs ds→∀ {us:List Value},Vals xs us→∃ as,ReadsAll s.heap us ds as
  | _,_,.nil,_,r=>by cases r;exact ⟨_,.nil⟩
  | _,_,.cons h t,_,r=>by
    cases r with
    | cons r1 r2 =>
      obtain ⟨as,q⟩:=Inv.rd I h r1
      obtain ⟨bs,p⟩:=Inv.rds I t r2
      exact ⟨_,.cons q p⟩
end
end
section
variable {X:Cx}
theorem hu64 {A:Around}{k:Nat}(hr:Room k A):A.units+64<cLine:=Nat.lt_of_le_of_lt (by omega) hr.un
end
section
variable {K:PySem.W.Frag}{H:Hp}{Q:VK}{a b:Addr}
end
section
variable {K:PySem.W.Frag}{H:Hp}{Q:VK}{a b:Addr}
end
section
variable {X:Cx}
end
theorem tDNewK_ap {σ:St}{H:Hp}{Q:VK}:tDNewK σ H Q=∀ p,H p=none→Q (.ref p) (upd H p (.dK [])):=rfl
section
variable {K:PySem.W.Frag}{H:Hp}{Q:VK}{p:Addr}{xs:List V}
theorem isi_int_no {v:V}{t:String}{c:String}(ty:TyOf K H v (.type t))(hk:PySem.W.kitOne K (.type t) (.type c)=some false)(q:Q (.bl false) H):rIsi K [v,.ty c] H Q:=⟨_,_,_,_,false,rfl,rfl,ty,hk,q⟩
end
end L2
namespace BM
open PySem L2 PyProof.Rows
end BM
namespace L2
open PySem PySem.Spec PyProof.Rows
def Itf (x:Nat→V)(n:Nat):It:=⟨fun i _=>i<n,fun i H v H'=>H'=H∧v=x i,fun i _=>i=n⟩
theorem turn_walk {P:Program}{w:World}{K:PySem.W.Frag}{tg:Expr}{it:Addr}{n:Nat}{Pv:Nat→Value→Prop}{St:Nat→Heap→Prop}{x:Nat→V}{ty:String}
    (hty:["enumerate","zip","dict_itemiterator","dict_reverseitemiterator","odict_iterator","itertools.zip_longest","itertools.pairwise"].contains ty=false)
    (W:∀ A:Around,A.handled=none→Walks P w A it [it] [it] n Pv St) (ob:∀ i h,St i h→∃ o vs,h.get? it=some o∧o.cls=.type ty∧o.data=.fields vs)
    (self:∀ (A:Around) (i:Nat) (s:Shared) (Q:Value→Shared→Prop) (E:Value→Shared→Prop),St i s.heap→Q (.ref it) s→wpAny (model P w) A (pyIter (.ref it)) Q E s)
    (val:∀ i v,i<n→Pv i v→RelV (x i) v) (fr:∀ i h h',St i h→(∀ b∈[it],∀ o,h.get? b=some o→h'.get? b=some o)→St i h'):Turn P w K tg (Itf x n) [it] it St where
  mem:=by simp
  obj:=fun i h st b hb=>by
    have e:b=it:=by simpa using hb
    subst e
    obtain ⟨o,vs,e,c,d⟩:=ob i h st
    exact ⟨o,e,fun v z=>by rw [d] at z;cases z⟩
  keep:=fr
  item:=by
    intro X hP hw hK hc i pins s σ H E I hf st hg
    subst hP hw hK
    obtain ⟨f0,f1,f2,f3,f4,f5⟩:=hf it (by simp)
    refine (W X.A (I.ok.hd hc)).item i s _ _ hg st fun v h' tk hv st' kk=>?_
    have I1:Inv X pins σ H { s with heap:=h',toks:=tk }:=I.turned (fun b o hb e=>kk b o (by simpa using hb) e) f0 f1 f3 f4 f5
    obtain ⟨o,vs,e,c,d⟩:=ob _ _ st'
    exact ⟨v,rfl,go_of (s:={ s with heap:=h',toks:=tk }) e c d hty ⟨x i,H,I1,val i v hg hv,⟨rfl,rfl⟩,st',fun b hb=>(hf b hb).1⟩⟩
  done:=by
    intro X hP hw hK hc i pins s σ H E I hf st hg
    subst hP hw hK
    have hg:i=n:=hg
    subst hg
    obtain ⟨f0,f1,f2,f3,f4,f5⟩:=hf it (by simp)
    refine (W X.A (I.ok.hd hc)).done s _ _ st fun h' tk kk=>⟨rfl,I.turned (fun b o hb e=>kk b o (by simpa using hb) e) f0 f1 f3 f4 f5⟩
  self:=self
section
variable {X:Cx}{tg:Expr}
def sgn (z:Str)(i:Nat):V:=.str ⟨#[z.cps.getD i 0]⟩
def iStr (te:TE):TI:=fun σ H R=>te σ H fun v H1=>∃ z,v=.str z∧R (Itf (sgn z) z.cps.size) H1
theorem sgn_at {z:Str}{i:Nat}{v:Value}(h:SignAt z i v):RelV (sgn z i) v:=by
  obtain ⟨c,u,e,rfl⟩:=h
  refine ⟨u,?_⟩
  have:z.cps.getD i 0=c:=by rw [Array.getD_eq_getD_getElem?,e];rfl
  rw [this]
theorem pi_str {l:Expr}{tl:TE}(hl:PE X l tl):PI X tg l (iStr tl):=by
  intro pins s σ H R I h
  refine thn (hl pins s σ H _ I h) fun v s1 ⟨y,H1,I1,r1,z,e,q⟩=>?_
  subst e
  obtain ⟨t,rfl⟩:=r1
  have fin:∀ (ty:String),["enumerate","zip","dict_itemiterator","dict_reverseitemiterator","odict_iterator","itertools.zip_longest","itertools.pairwise"].contains ty=false →
      (∀ (it:Addr) (A:Around),A.handled=none→Walks X.prog X.w A it [it] [it] z.cps.size (SignAt z) (fun i h=>h.IsStrIter it ty z t i)) →
      (∀ (it:Addr) (A:Around) (i:Nat) (s:Shared) (Q:Value→Shared→Prop) (E:Value→Shared→Prop),s.heap.IsStrIter it ty z t i→Q (.ref it) s→wpAny (model X.prog X.w) A (pyIter (.ref it)) Q E s) →
      PIE X pins σ tg R (.ref s1.heap.objs.size) { s1 with heap:=s1.heap.push { cls:=.type ty,data:=.fields #[.str z t,.int 0 0] } }:=fun ty hty W self=>by
    refine ⟨s1.heap.objs.size,[s1.heap.objs.size],_,_,H1,rfl,I1.kept (t':=s1.toks) fun b o e=>Heap.get?_push_of_some _ e,
      turn_walk hty (W _) (fun i h st=>let ⟨o,e,c,d⟩:=st;⟨o,_,e,c,d⟩) (self _) (fun i v _ hv=>sgn_at hv) (fun i h h' st k=>let ⟨o,ho,r⟩:=st;⟨o,k _ (by simp) o ho,r⟩),⟨_,Heap.get?_push_size _ rfl,rfl,rfl⟩,fun b hb=>?_,q⟩
    have e:b=s1.heap.objs.size:=by simpa using hb
    subst e
    exact I1.fpOk (Nat.le_refl _) (I1.hok.fresh (Nat.le_refl _))
  cases ha:z.cps.all (·<128)
  · exact wpAny_pyIter_wide ha (fin _ (by decide) (fun it A hA=>Walks.strWide hA it z t) fun it A i s Q E st h=>wpAny_pyIter_striter_wide st h)
  · exact wpAny_pyIter_ascii ha (fin _ (by decide) (fun it A hA=>Walks.strAscii hA it z t) fun it A i s Q E st h=>wpAny_pyIter_striter_ascii st h)
theorem iStr_ap {te:TE}{σ:St}{H:Hp}{R:It→Hp→Prop}:iStr te σ H R=te σ H fun v H1=>∃ z,v=.str z∧R (Itf (sgn z) z.cps.size) H1:=rfl
end
theorem compF {x:Nat→V}{m n:Nat}{caps:List Nat}{tt:TT}{te:TE}{σ:St}{H1:Hp}{Q:VK}(p:Nat→Bool)(f:Nat→V)(hn:n≤1000000)
    (ht:∀ i H2 R,i<n→Same H1 H2→R (p i) H2→tt ((capSt m caps σ).set 0 (some (x i))) H2 R)
    (he:∀ i H2 R,i<n→p i=true→Same H1 H2→R (f i) H2→te ((capSt m caps σ).set 0 (some (x i))) H2 R)
    (hq:∀ D,H1 D=none→Q (.ref D) (upd H1 D (.lst (((List.range n).filter p).map f)))):CompJ (Itf x n) m caps (gName 0) tt te σ H1 Q :=
  compPure x p f hn (fun _ _=>rfl) (fun _ _ h _=>h) (fun _ _ _ _ _ _ h=>⟨h.2,h.1⟩) (fun _ _ _ _ _ h=>h _ rfl) ht he hq
theorem strsAre_of:∀ {xs:List Str} {us:List Value},Vals (xs.map V.str) us→StrsAre us xs
  | [],_,.nil=>.nil
  | _::_,_,.cons ⟨_,e⟩ r=>by subst e;exact .cons _ _ (strsAre_of r)
section
variable {X:Cx}
def rJoin (K:PySem.W.Frag):V→List V→Hp→VK→Prop:=fun x vs H Q=>∃ z p ys,x=.str z∧vs=[.ref p]∧SqL K H p (ys.map V.str)∧(ys.map (·.length)).sum+ys.length*z.length≤16777216∧Q (.str (Txt.join z ys)) H
theorem mt_join (K:PySem.W.Frag)(h:X.K=K:=by rfl):MtR X "str.join" (rJoin K):=by
  subst h
  intro pins s σ H x vs v us Q I rx rv h
  obtain ⟨z,p,ys,rfl,rfl,hp,hz,q⟩:=h
  obtain ⟨t,rfl⟩:=rx
  obtain ⟨u,rfl,ru⟩:=rv.one
  cases ru
  obtain ⟨its,r,pl,_⟩:=I.list hp
  exact join_list pl.isList (by simpa using strsAre_of r) hz fun t' k=>⟨.str _,H,I.tok _,⟨_,rfl⟩,q⟩
theorem rJoin_ap {K:PySem.W.Frag}{x:V}{vs:List V}{H:Hp}{Q:VK}:rJoin K x vs H Q=∃ z p ys,x=.str z∧vs=[.ref p]∧SqL K H p (ys.map V.str)∧(ys.map (·.length)).sum+ys.length*z.length≤16777216∧Q (.str (Txt.join z ys)) H:=rfl
theorem tyV_str {K:PySem.W.Frag}{z:Str}{H:Hp}:tyV K "str" (.str z) H:=rfl
end
theorem int_mk {K:PySem.W.Frag}{h:Heap}{mg:Str→Option Value}{x:Str}{n:Int}{t:Tok}(X:K.In h)(G:h.Ns mainGlobals mg)(a:PySem.W.nsIn K mainGlobals x=some (some (.int n t))):∃ t,mg x=some (.int n t):=⟨t,PySem.W.mg_of X G a⟩
end L2
namespace L2
open PySem PySem.Spec PyProof.Rows
def MethAt (P:Program)(w:World)(K:PySem.W.Frag)(mg:Str→Option Value)(base:Heap)(C:Addr)(m:Str)(ps:List Str)(k:Nat)(sp:Sp):Prop :=
  Cls K C∧∃ f fd,Meth K C m f∧FnOk P w K mg base CX0 k f fd ps sp∧Binds K fd ps []
def MDefAt (K:PySem.W.Frag)(C:Addr)(m qual:Str)(st:Stmt)(ps:List Str):Prop:=∃ f fd,Fun K m qual st f fd∧Meth K C m f∧Binds K fd ps []
def MakeAt (P:Program)(w:World)(K:PySem.W.Frag)(mg:Str→Option Value)(base:Heap)(x:Str)(C:Addr)(ps:List Str)(k:Nat)(sp:Sp):Prop :=
  mg x=some (.ref C)∧∃ f fd,Mk K C f∧FnOk P w K mg base CX0 k f fd ps sp∧Binds K fd ps []
def MakerAt (K:PySem.W.Frag)(C:Addr)(qual:Str)(st:Stmt)(ps:List Str):Prop:=∃ f fd,Fun K "__init__" qual st f fd∧Mk K C f∧Binds K fd ps []
section
variable {P:Program}{w:World}{K:PySem.W.Frag}{mg:Str→Option Value}{base:Heap}
theorem MethAt.of {C:Addr}{m qual:Str}{st:Stmt}{N ps:List Str}{k:Nat}{sp:Sp}(c:Cls K C)(d:MDefAt K C m qual st ps)(S:FnScope N ps (defScope st))(len:∀ vs H Q E,sp vs H Q E→vs.length=ps.length)
    (hbody:∀ (f:Addr) (cdv:Value) (A:Around) (outer:List Env) (s:Shared) (H:Hp) (vs:List V) (Q:VK) (E:XK),Room k (A.deeper (envOfC qual (defScope st) s.heap.objs.size f cdv))→sp vs H Q E →
      ∃ t,PSs (cxOf CX0 P w K mg base N qual (defScope st) f cdv A outer s H E).nox (defBody st) t∧t { nx:=fun _ H'=>Q .non H',rt:=Q } (start N vs) H):MethAt P w K mg base C m ps (k+1) sp:=by
  obtain ⟨f,fd,F,m,b⟩:=d
  exact ⟨c,f,fd,m,F.ok S len (hbody f),b⟩
theorem MakeAt.of {x:Str}{C:Addr}{qual:Str}{st:Stmt}{N ps:List Str}{k:Nat}{sp:Sp}(hx:mg x=some (.ref C))(d:MakerAt K C qual st ps)(S:FnScope N ps (defScope st))(len:∀ vs H Q E,sp vs H Q E→vs.length=ps.length)
    (hbody:∀ (f:Addr) (cdv:Value) (A:Around) (outer:List Env) (s:Shared) (H:Hp) (vs:List V) (Q:VK) (E:XK),Room k (A.deeper (envOfC qual (defScope st) s.heap.objs.size f cdv))→sp vs H Q E →
      ∃ t,PSs (cxOf CX0 P w K mg base N qual (defScope st) f cdv A outer s H E).nox (defBody st) t∧t { nx:=fun _ H'=>Q .non H',rt:=Q } (start N vs) H):MakeAt P w K mg base x C ps (k+1) sp:=by
  obtain ⟨f,fd,F,m,b⟩:=d
  exact ⟨hx,f,fd,m,F.ok S len (hbody f),b⟩
theorem mdef_mk {C:Addr}{m qual:Str}{st:Stmt}{ps:List Str}{f:Addr}{oc:Value}{od an:Option Addr}{osl:Array (Option Value)}{kV doc pm cdv ct:Value}(a:PySem.W.findIn K (.ref C) m=some (some (.ref f)))
    (l:K.lookup f=some ⟨oc,od,.func (PySem.W.fnOf m qual (defArgs st) (defBody st) (defScope st) .none kV doc pm an cdv ct),osl⟩) (c:PySem.W.codeIn K cdv qual=true) (k:PySem.W.keepIn K (.ref f)=true) (fn:PySem.W.isFn K (.ref f)=true)
    (hb:∀ (kV doc pm:Value) (an:Option Addr) (cdv ct:Value) (us:List Value),us.length=ps.length→bindArgs (PySem.W.fnOf m qual (defArgs st) (defBody st) (defScope st) .none kV doc pm an cdv ct) ⟨us,[]⟩=pure (ps.zip us)):MDefAt K C m qual st ps :=
  ⟨f,_,fun_mk l c k,⟨a,fn,k⟩,(fun_mk l c k).binds hb⟩
theorem maker_mk {C:Addr}{qual:Str}{st:Stmt}{ps:List Str}{f:Addr}{oc:Value}{od an:Option Addr}{osl:Array (Option Value)}{kV doc pm cdv ct:Value}(a:PySem.W.findIn K (.ref C) "__init__"=some (some (.ref f)))
    (l:K.lookup f=some ⟨oc,od,.func (PySem.W.fnOf "__init__" qual (defArgs st) (defBody st) (defScope st) .none kV doc pm an cdv ct),osl⟩) (c:PySem.W.codeIn K cdv qual=true) (k:PySem.W.keepIn K (.ref f)=true) (fn:PySem.W.isFn K (.ref f)=true)
    (mk:PySem.W.makesIn K C=true) (kC:PySem.W.keepIn K (.ref C)=true)
    (hb:∀ (kV doc pm:Value) (an:Option Addr) (cdv ct:Value) (us:List Value),us.length=ps.length→bindArgs (PySem.W.fnOf "__init__" qual (defArgs st) (defBody st) (defScope st) .none kV doc pm an cdv ct) ⟨us,[]⟩=pure (ps.zip us)):MakerAt K C qual st ps :=
  ⟨f,_,fun_mk l c k,⟨mk,a,fn,kC⟩,(fun_mk l c k).binds hb⟩
end
def tMeD (P:Program)(w:World)(K:PySem.W.Frag)(mg:Str→Option Value)(base:Heap)(k0:Nat)(m:Str)(ta:TE)(t:TA):TE:=fun σ H Q=>ta σ H fun x H1=>∃ a C dx fs ps sp,x=.ref a∧H1 a=some (.ins C dx fs)∧fs.lookup m=none ∧
  MethAt P w K mg base C m ps k0 sp∧t σ H1 fun vs H2=>sp (x::vs) H2 Q E0
section
variable {X:Cx}{k0:Nat}{x m:Str}{p pos apos:Pos}{e o:Expr}{es:List Expr}{ta:TE}{t:TA}{P:Program}{w:World}{K:PySem.W.Frag}{mg:Str→Option Value}{base:Heap}
theorem pe_meD (k0:Nat){pl:Sem Bool}(hr:Room k0 X.A)(he:PE X o ta)(ha:PA X (e::es) t)(hP:X.prog=P:=by rfl)(hw:X.w=w:=by rfl)(hK:X.K=K:=by rfl)(hmg:X.mg=mg:=by rfl)(hbs:X.base=base:=by rfl)
    (hst:starEach (e::es) X.env=(false,eval e X.env)::starEach es X.env:=by rfl) (hpl:(backTo pos (starEach es X.env)).any (·.1)=false:=by rfl)
    (ht:eval (.Call (.Attribute o m apos) (e::es) [] pos) X.env=(do
      let ov ← eval o X.env
      standAt apos.atName
      let (f,first) ← holding [ov] (getMethod ov m pl)
      callWith pos f first (backTo pos (starEach (e::es) X.env)) (backToKw pos (keywordEach [] X.env))):=by rfl) :
    PE X (.Call (.Attribute o m apos) (e::es) [] pos) (tMeD P w K mg base k0 m ta t):=by
  subst hP hw hK hmg hbs
  intro pins s σ H Q I h
  refine PySem.W.methodCall_KW (pl:=pl) (thn (he pins s σ H _ I h) fun u s1 hz=>?_) ht
  obtain ⟨x,H1,I1,rx,a,C,dx,fs,ps,sp,ex,ea,l,⟨c,f,fd,me,F,b⟩,q⟩:=hz
  subst ex
  obtain rfl:u=Value.ref a:=rx
  refine getmeth_ok I1 ea c me l ?_
  refine PySem.W.callWith_K (first:=[.ref a]) (h₀:=X.base) I.ok.mod.kin me.kp (thn (ha pos pins s1 σ H1 _ I1 q) fun us s2 ⟨vs,H2,I2,r,q2⟩=>⟨I2.kIn,?_⟩) hst hpl
  exact run_fn (us:=.ref a::us) (vs:=.ref a::vs) (dvs:=[]) F hr b .nil pass0 I2 (.cons rfl r) (by rw [List.append_nil];exact q2)
theorem pe_meD0 (k0:Nat){pl:Sem Bool}(hr:Room k0 X.A)(he:PE X o ta)(hP:X.prog=P:=by rfl)(hw:X.w=w:=by rfl)(hK:X.K=K:=by rfl)(hmg:X.mg=mg:=by rfl)(hbs:X.base=base:=by rfl)
    (ht:eval (.Call (.Attribute o m apos) [] [] pos) X.env=(do
      let ov ← eval o X.env
      standAt apos.atName
      let (f,first) ← holding [ov] (getMethod ov m pl)
      callWith pos f first (backTo pos (starEach [] X.env)) (backToKw pos (keywordEach [] X.env))):=by rfl) :
    PE X (.Call (.Attribute o m apos) [] [] pos) (tMeD P w K mg base k0 m ta tNil):=by
  subst hP hw hK hmg hbs
  intro pins s σ H Q I h
  refine PySem.W.methodCall_KW (pl:=pl) (thn (he pins s σ H _ I h) fun u s1 hz=>?_) ht
  obtain ⟨x,H1,I1,rx,a,C,dx,fs,ps,sp,ex,ea,l,⟨c,f,fd,me,F,b⟩,q⟩:=hz
  subst ex
  obtain rfl:u=Value.ref a:=rx
  refine getmeth_ok I1 ea c me l ?_
  exact PySem.W.callWith_K0 (first:=[.ref a]) I1.kIn me.kp (run_fn (us:=[.ref a]) (vs:=[.ref a]) (dvs:=[]) F hr b .nil pass0 I1 (.cons rfl .nil) q)
theorem pe_makeF {C:Addr}{ps:List Str}{k:Nat}{sp:Sp}(F:MakeAt X.prog X.w X.K X.mg X.base x C ps k sp)(hr:Room (k+1) X.A)(hg:Gl X x)(ha:PA X (e::es) t)
    (hdb:(x==("__debug__":Str))=false:=by decide) (he:starEach (e::es) X.env=(false,eval e X.env)::starEach es X.env:=by rfl) (hpl:(backTo pos (starEach es X.env)).any (·.1)=false:=by rfl) :
    PE X (.Call (.Name x p) (e::es) [] pos) (tMake C sp [] E0 t):=by
  obtain ⟨hm,f,fd,M,F,b⟩:=F
  exact pe_make M F hr hg hm b .nil pass0 ha hdb he hpl
theorem ps_fldK (K:PySem.W.Frag){value:Expr}{f:Str}{tv:TE}{pos':Pos}(ha:PE X o ta)(hv:PE X value tv)(hs:swapsWith value (some (.Attribute o f pos')) pos.line X.env=pure false:=by rfl)(h:X.K=K:=by rfl):PS X (.Assign [.Attribute o f pos'] value pos) (sFld K ta tv f):=h ▸ ps_fld ha hv hs
theorem pe_fldK (K:PySem.W.Frag){f:Str}(he:PE X e ta)(h:X.K=K:=by rfl)(hb:attributeBase e f X.env (eval e X.env)=eval e X.env:=by rfl):PE X (.Attribute e f pos) (tFld K ta f):=h ▸ pe_fld he hb
end
section
variable {P:Program}{w:World}{K:PySem.W.Frag}{mg:Str→Option Value}{base:Heap}{k0:Nat}{m f:Str}{ta tv:TE}{t:TA}{σ:St}{H:Hp}{Q:VK}{C:Addr}{sp:Sp}{dvs:List V}{E:XK}{D:Ends}
theorem tMeD_ap:tMeD P w K mg base k0 m ta t σ H Q=ta σ H fun x H1=>∃ a C dx fs ps sp,x=.ref a∧H1 a=some (.ins C dx fs)∧fs.lookup m=none∧MethAt P w K mg base C m ps k0 sp∧t σ H1 fun vs H2=>sp (x::vs) H2 Q E0:=rfl
theorem tMake_ap:tMake C sp dvs E t σ H Q=t σ H fun vs H1=>∀ x dx,H1 x=none→H1 dx=none→dx≠x→sp (.ref x::(vs++dvs)) (upd (upd H1 dx (.own x)) x (.ins C dx [])) (fun v H2=>v=.non∧Q (.ref x) H2) E:=rfl
theorem tFld_ap:tFld K ta f σ H Q=ta σ H fun x H1=>∃ a C dx fs v,x=.ref a∧H1 a=some (.ins C dx fs)∧Cls K C∧NoAttr K C f∧fs.lookup f=some v∧Q v H1:=rfl
theorem sFld_ap:sFld K ta tv f D σ H=tv σ H fun y H1=>ta σ H1 fun x H2=>∃ a C dx fs,x=.ref a∧H2 a=some (.ins C dx fs)∧Cls K C∧NoAttr K C f∧fs.length<1000∧D.nx σ (upd H2 a (.ins C dx (putF f y fs))):=rfl
theorem gTup_ap {n:Nat}{t:TGs}{v:V}{R:St→Hp→Prop}:gTup K n t v σ H R=∃ a xs,v=.ref a∧SqT K H a xs∧xs.length=n∧t xs σ H R:=rfl
theorem gCons_ap {t:TG}{u:TGs}{vs:List V}{R:St→Hp→Prop}:gCons t u vs σ H R=∃ v r,vs=v::r∧t v σ H fun σ' H'=>u r σ' H' R:=rfl
theorem gNil_ap {vs:List V}{R:St→Hp→Prop}:gNil vs σ H R=(vs=[]∧R σ H):=rfl
theorem tSl_ap {r:V→Option Int→Option Int→Hp→VK→Prop}{te:TE}{tl th:TO}:tSl r te tl th σ H Q=te σ H fun x H1=>tl σ H1 fun l H2=>th σ H2 fun u H3=>r x l u H3 Q:=rfl
theorem tNoPart_ap {R:Option Int→Hp→Prop}:tNoPart σ H R=R none H:=rfl
theorem tPart_ap {R:Option Int→Hp→Prop}:tPart ta σ H R=ta σ H fun x H1=>∃ i,x=.int i∧R (some i) H1:=rfl
theorem rSlL_ap {x:V}{lo hi:Option Int}:rSlL K x lo hi H Q=∃ a xs,x=.ref a∧SqL K H a xs∧∀ p,H p=none→Q (.ref p) (upd H p (.lst (cutV xs lo hi))):=rfl
theorem sl_listK {X:Cx}(K:PySem.W.Frag)(h:X.K=K:=by rfl):SlR X (rSlL K):=h ▸ sl_list
theorem pg_tupK {X:Cx}(K:PySem.W.Frag){pos:Pos}{es:List Expr}{k:Nat}{t:TGs}{n:Nat}(hc:X.calm=true)(h:PGs X es t)(hK:X.K=K:=by rfl)
    (hn:(assignEach es X.env).length=n:=by rfl) (hst:(assignEach es X.env).findIdx? (·.1)=none:=by rfl):PG X (.Tuple es k pos) (gTup K n t):=hK ▸ pg_tup hc h hn hst
end
def CompYes (n i:Nat)(D:Addr)(I:Nat→List V→Hp→Prop)(y:V)(H6:Hp):Prop:=∃ xs,H6 D=some (.lst xs)∧xs.length<sizeLine∧∃ m',m'<n-i∧m'=n-(i+1)∧∃ ys,I (i+1) ys (upd H6 D (.lst (xs++[y])))
def CompNo (n i:Nat)(I:Nat→List V→Hp→Prop)(H5:Hp):Prop:=∃ m',m'<n-i∧m'=n-(i+1)∧∃ ys,I (i+1) ys H5
theorem compYes {n i:Nat}{D:Addr}{I:Nat→List V→Hp→Prop}{y:V}{H6:Hp}{ys:List V}(hn:n≤1000000)(hi:i<n)(hl:ys.length≤i)(h:H6 D=some (.lst ys))(q:I (i+1) (ys++[y]) (upd H6 D (.lst (ys++[y])))):CompYes n i D I y H6 :=
  ⟨ys,h,by rw [sizeLine_eq];omega,n-(i+1),by omega,rfl,_,q⟩
theorem compG {J:It}{m n:Nat}{caps:List Nat}{g:TG}{tt:TT}{te:TE}{σ:St}{H1:Hp}{Q:VK}(I:Addr→Nat→List V→Hp→Prop)
    (h0:∀ D,H1 D=none→I D 0 [] (upd H1 D (.lst []))) (hl:∀ D i ys H2,I D i ys H2→i≤n)
    (hstop:∀ D ys H2,H1 D=none→I D n ys H2→J.stop n H2) (hgo:∀ D i ys H2,H1 D=none→i<n→I D i ys H2→J.go i H2)
    (turn:∀ D i ys H2 x H3,H1 D=none→i<n→I D i ys H2→J.yld i H2 x H3→g x (capSt m caps σ) H3 fun σ4 H4=>tt σ4 H4 fun b H5=>if b=true then te σ4 H5 fun y H6=>CompYes n i D (I D) y H6 else CompNo n i (I D) H5)
    (hq:∀ D ys H2,H1 D=none→I D n ys H2→Q (.ref D) H2):CompJ J m caps g tt te σ H1 Q:=by
  intro D hD
  refine ⟨fun i k H2=>k=n-i∧∃ ys,I D i ys H2,⟨n,rfl,[],h0 D hD⟩,?_⟩
  rintro i k H2 ⟨rfl,ys,hI⟩
  have h1:=hl D i ys H2 hI
  by_cases hlt:i<n
  · exact .inr ⟨hgo D i ys H2 hD hlt hI,fun x H3 y=>turn D i ys H2 x H3 hD hlt hI y⟩
  · have e:i=n:=by omega
    subst e
    exact .inl ⟨hstop D ys H2 hD hI,hq D ys H2 hD hI⟩
theorem Same.put {H H':Hp}{a:Addr}{o:HO}(s:Same H H')(h:H a=none):Same H (upd H' a o):=fun b u e=>by rw [upd_ne (ne_of_none e h)];exact s b u e
theorem Same.new {H:Hp}{a:Addr}{o:HO}(h:H a=none):Same H (upd H a o):=(Same.refl H).put h
end L2
namespace L2
open PySem PySem.Spec PyProof.Rows
section
variable {prog:Program}{w:World}{A:Around}{E:Value→Shared→Prop}{s:Shared}
end
section
variable {X:Cx}{e:Expr}{te:TE}{p p' pos pos':Pos}
end
theorem rExtend_ap {x:V}{vs:List V}{H:Hp}{Q:VK}:rExtend x vs H Q=∃ l b xs zs,x=.ref l∧vs=[.ref b]∧H l=some (.lst xs)∧H b=some (.lst zs)∧xs.length+zs.length≤sizeLine∧Q .non (upd H l (.lst (xs++zs))):=rfl
end L2
namespace L2
open PySem PySem.Spec PyProof.Rows
section
variable {prog:Program}{w:World}{A:Around}{E:Value→Shared→Prop}
end
structure TyIns (K:PySem.W.Frag)(C:Addr):Prop where
  a:PySem.W.findIn K (.ref C) "__class__"=some (some (.builtin "object.__class__"))
  b:PySem.W.specialIn K (.builtin "object.__class__") "__get__"=some (some (.builtin "getset_descriptor.__get__"))
  c:PySem.W.takesIn K (.builtin "object.__class__")=some true
  d:PySem.W.mroIn K C (.type "object")=some true
def IsiTo (K:PySem.W.Frag)(mg:Str→Option Value)(C:Addr)(x:Str)(b:Bool):Prop:=∀ S,mg x=some (.ref S)→PySem.W.kitOne K (.ref C) (.ref S)=some b
theorem isi_to {K:PySem.W.Frag}{h:Heap}{mg:Str→Option Value}{x:Str}{C S:Addr}{b:Bool}(X:K.In h)(G:h.Ns mainGlobals mg)(a:PySem.W.nsIn K mainGlobals x=some (some (.ref S)))(r:PySem.W.kitOne K (.ref C) (.ref S)=some b):IsiTo K mg C x b:=fun T e=>by
  rw [PySem.W.mg_of X G a] at e
  cases e
  exact r
theorem all1 {α:Type}{p:List α→Prop}(h:∀ a,p [a]):∀ us:List α,us.length=1→p us
  | [a],_=>h a
theorem all2 {α:Type}{p:List α→Prop}(h:∀ a b,p [a,b]):∀ us:List α,us.length=2→p us
  | [a,b],_=>h a b
end L2
namespace BM
open PySem L2 PyProof.Rows
def fs (k:Nat):Nat→Nat→Nat
  | 0,_=>0
  | n+1,w=>w%2^k+fs k n (w/2^k)
end BM
namespace L2
open PySem PySem.Spec PyProof.Rows
section
variable {X:Cx}{pins:List (Addr × Obj)}{σ:St}{H:Hp}{s:Shared}{h':Heap}
theorem Inv.turnedNew {t':Nat} {ch:List Addr} {T:Addr} {o:HO} (I:Inv X pins σ H s) (hf:∀ b∈ch,FpOk X pins H b) (k:∀ b u,b∉ch→s.heap.get? b=some u→h'.get? b=some u) (hT:s.heap.objs.size≤T)
    (new:ObjOk X.prog X.w (upd H T o) h' T o):Inv X pins σ (upd H T o) { s with heap:=h',toks:=t' }:=by
  have nT:H T=none:=I.hok.fresh hT
  have nch:∀ b u,H b=some u→b∉ch:=fun b u e z=>by
    rw [(hf b z).1] at e
    cases e
  have neT:∀ b u,s.heap.get? b=some u→b≠T:=fun b u e z=>absurd (Nat.lt_of_lt_of_le (Heap.lt_size e) (by rw [z];exact hT)) (Nat.lt_irrefl _)
  have lch:X.env.locals∉ch:=fun z=>(hf _ z).2.1 rfl
  refine I.step (g':=s.gens) (d':=s.drawn) (ch:=ch) (fun b hb=>?_) (fun b u _ _ hc e _=>k b u hc e) (fun b u _ _ hc e _=>⟨u.slots,k b u hc e⟩) (fun b u _ e n=>?_) (fun b u hc e=>⟨u,k b u hc e⟩) (fun b xs e=>?_) (fun b u v e=>?_) (fun b ps e=>⟨#[],?_⟩) (fun m hm=>?_) (fun b u e=>?_) I.bare
  · obtain ⟨_,f1,_,f3,f4,f5⟩:=hf b hb
    exact ⟨f3,f1,f4,f5⟩
  · rw [upd_ne (neT b u e)]
    exact n
  · rw [upd_ne (ne_of_none e nT)]
    exact e
  · rw [upd_ne (ne_of_none e nT)]
    exact e
  · rw [upd_ne (ne_of_none e nT),e]
    simp
  · obtain ⟨u,es,ep,ho,r⟩:=hm
    exact ⟨u,es,ep,k _ u lch ho,r⟩
  · by_cases hb:b=T
    · subst hb
      rw [upd_same] at e
      cases e
      exact new
    · rw [upd_ne hb] at e
      refine (I.hok b u e).stay (fun c v hc q=>k c v ?_ q) (fun c q=>?_) fun c xs q=>?_
      · rcases hc with z | z
        · rw [z];exact nch b u e
        · exact nch c _ z
      · rw [upd_ne (ne_of_none q nT)]
        exact q
      · rw [upd_ne (ne_of_none q nT)]
        exact q
theorem Inv.turnedL {t':Nat}{ch:List Addr}(I:Inv X pins σ H s)(hf:∀ b∈ch,FpOk X pins H b)(k:∀ b u,b∉ch→s.heap.get? b=some u→h'.get? b=some u):Inv X pins σ H { s with heap:=h',toks:=t' }:=by
  have nch:∀ b u,H b=some u→b∉ch:=fun b u e z=>by
    rw [(hf b z).1] at e
    cases e
  have lch:X.env.locals∉ch:=fun z=>(hf _ z).2.1 rfl
  refine I.step (g':=s.gens) (d':=s.drawn) (ch:=ch) (fun b hb=>?_) (fun b u _ _ hc e _=>k b u hc e) (fun b u _ _ hc e _=>⟨u.slots,k b u hc e⟩) (fun _ _ _ _ n=>n) (fun b u hc e=>⟨u,k b u hc e⟩) (fun _ _ e=>e) (fun _ _ _ e=>e) (fun b ps e=>⟨#[],by rw [e];simp⟩) (fun m hm=>?_) (fun b u e=>?_) I.bare
  · obtain ⟨_,f1,_,f3,f4,f5⟩:=hf b hb
    exact ⟨f3,f1,f4,f5⟩
  · obtain ⟨u,es,ep,ho,r⟩:=hm
    exact ⟨u,es,ep,k _ u lch ho,r⟩
  · refine (I.hok b u e).stay (fun c v hc q=>k c v ?_ q) (fun _ q=>q) fun _ _ q=>q
    rcases hc with z | z
    · rw [z];exact nch b u e
    · exact nch c _ z
end
def Itz (K:PySem.W.Frag)(a b:Addr):It :=
  ⟨fun i H=>∃ xs ys x y,SqL K H a xs∧SqL K H b ys∧xs[i]?=some x∧ys[i]?=some y,
   fun i H v H'=>∃ T x y,v=.ref T∧H T=none∧H'=upd H T (.tup [x,y])∧(∀ xs,SqL K H a xs→xs[i]?=some x)∧(∀ ys,SqL K H b ys→ys[i]?=some y),
   fun i H=>∃ xs ys,SqL K H a xs∧SqL K H b ys∧(xs.length≤i∨ys.length≤i)⟩
structure ZipTn (z TI TO i1 i2 a b:Addr)(i:Nat)(h:Heap):Prop where
  z:IsZip h z TI TO .none
  ti:IsPair h TI (.ref i1) (.ref i2)
  to:∃ x y,IsPair h TO x y
  i1:h.IsListIter i1 a i
  i2:h.IsListIter i2 b i
theorem turn_zip {P:Program} {w:World} {K:PySem.W.Frag} {es:List Expr} {x1} {pos:Pos} {z TI TO i1 i2 a b:Addr} (D:ZipApart z TI TO i1 i2 a b):Turn P w K (.Tuple es x1 pos) (Itz K a b) [z,TI,TO,i1,i2] z (ZipTn z TI TO i1 i2 a b) where
  mem:=by simp
  obj:=fun i h st c hc=>by
    simp only [List.mem_cons,List.not_mem_nil,or_false] at hc
    obtain ⟨x,y,hto⟩:=st.to
    obtain ⟨o1,e1,_,d1⟩:=st.i1
    obtain ⟨o2,e2,_,d2⟩:=st.i2
    rcases hc with rfl | rfl | rfl | rfl | rfl
    · exact ⟨_,st.z,fun v q=>by cases q⟩
    · exact ⟨_,st.ti,fun v q=>by cases q⟩
    · exact ⟨_,hto,fun v q=>by cases q⟩
    · exact ⟨o1,e1,fun v q=>by rw [d1] at q;cases q⟩
    · exact ⟨o2,e2,fun v q=>by rw [d2] at q;cases q⟩
  keep:=fun i h h' st k=>by
    obtain ⟨x,y,hto⟩:=st.to
    exact ⟨k z (by simp) _ st.z,k TI (by simp) _ st.ti,⟨x,y,k TO (by simp) _ hto⟩,st.i1.at fun o e=>k i1 (by simp) o e,st.i2.at fun o e=>k i2 (by simp) o e⟩
  item:=by
    intro X hP hw hK hc i pins s σ H E I hf st hg
    subst hP hw hK
    obtain ⟨xs,ys,x,y,hq,hr,hx,hy⟩:=hg
    obtain ⟨its,rv,p,_⟩:=I.list hq
    obtain ⟨jts,rw_,p2,_⟩:=I.list hr
    obtain ⟨u,hu,ru⟩:=rv.get hx
    obtain ⟨v,hv,rv2⟩:=rw_.get hy
    obtain ⟨x0,y0,hto⟩:=st.to
    refine wpAny_pyNext_zip_item D st.z st.ti hto st.i1 st.i2 p.isList p2.isList (x:=u) (y:=v) (by simpa using hu) (by simpa using hv) fun g1 k1 k2 k3 k4 k5 k6 k7=>?_
    refine ⟨_,rfl,wpAny_letOwnedTupleGo_zip k1 fun g2 k8 k9=>?_⟩
    have lt:∀ {c:Addr} {o:Obj},s.heap.get? c=some o→s.heap.objs.size≠c:=fun e=>Nat.ne_of_gt (Heap.lt_size e)
    have keep:∀ c o,c∉[z,TI,TO,i1,i2]→s.heap.get? c=some o→g2.get? c=some o:=fun c o hc e=>by
      simp only [List.mem_cons,List.not_mem_nil,or_false,not_or] at hc
      exact k9.extBut _ _ hc.1 (k7 c o hc.1 hc.2.2.1 hc.2.2.2.1 hc.2.2.2.2 e)
    have hT:g2.get? s.heap.objs.size=some { cls:=.type "tuple",data:=.seq #[u,v] }:=k9.extBut _ _ (lt st.z) k5
    have nT:H s.heap.objs.size=none:=I.hok.fresh (Nat.le_refl _)
    have I1:Inv X pins σ (upd H s.heap.objs.size (.tup [x,y])) { s with heap:=g2 }:=I.turnedNew (t':=s.toks) hf keep (Nat.le_refl _) ⟨by show 2≤sizeLine;decide,[u,v],.cons ru (.cons rv2 .nil),_,hT,rfl,_,rfl⟩
    refine ⟨.ref s.heap.objs.size,_,I1,rfl,⟨_,x,y,rfl,nT,rfl,fun zs hz=>by rw [I.list_inj hz hq];exact hx,fun zs hz=>by rw [I.list_inj hz hr];exact hy⟩,?_,fun c hc=>?_⟩
    · have nz:∀ c,c≠z→∀ o,g1.get? c=some o→g2.get? c=some o:=fun c hc o e=>k9.extBut _ _ hc e
      exact ⟨k8,nz _ D.TIz _ (k7 _ _ D.TIz D.TITO D.TIi1 D.TIi2 st.ti),⟨u,v,nz _ D.TOz _ k2⟩,k3.at fun o e=>nz _ D.i1z o e,k4.at fun o e=>nz _ D.i2z o e⟩
    · rw [upd_ne ?_]
      · exact (hf c hc).1
      · rintro rfl
        simp only [List.mem_cons,List.not_mem_nil,or_false] at hc
        obtain ⟨o1,e1,_⟩:=st.i1
        obtain ⟨o2,e2,_⟩:=st.i2
        rcases hc with q | q | q | q | q
        · exact lt st.z q
        · exact lt st.ti q
        · exact lt hto q
        · exact lt e1 q
        · exact lt e2 q
  done:=by
    intro X hP hw hK hc i pins s σ H E I hf st hg
    subst hP hw hK
    obtain ⟨xs,ys,hq,hr,hx⟩:=hg
    obtain ⟨its,rv,p,_⟩:=I.list hq
    obtain ⟨jts,rw_,p2,_⟩:=I.list hr
    obtain ⟨x0,y0,hto⟩:=st.to
    have e1:=rv.length
    have e2:=rw_.length
    refine wpAny_pyNext_zip_end (I.ok.hd hc) D st.z st.ti hto st.i1 st.i2 p.isList p2.isList ?_ fun g1 k=>?_
    · rcases hx with q | q
      · exact .inl (by simp;omega)
      · exact .inr (by simp;omega)
    · refine ⟨rfl,I.turnedL (t':=s.toks) hf fun c o hc e=>?_⟩
      simp only [List.mem_cons,List.not_mem_nil,or_false,not_or] at hc
      exact k c o hc.1 hc.2.2.1 hc.2.2.2.1 hc.2.2.2.2 e
  self:=fun _ _ _ _ _ st h=>wpAny_pyIter_zip st.z h
theorem boot_zip:bootBuiltins "zip"=some (.type "zip"):=by decide +kernel
def iZip (K:PySem.W.Frag)(ta:TA):TI:=fun σ H R=>ta σ H fun vs H1=>∃ a b,vs=[.ref a,.ref b]∧(∃ xs,SqL K H1 a xs)∧(∃ ys,SqL K H1 b ys)∧R (Itz K a b) H1
theorem pi_zipK {X:Cx} (K:PySem.W.Frag) {es:List Expr} {x1} {p3:Pos} {a b:Expr} {ta:TA} {p pos:Pos} (hg:Gl X "zip") (hm:X.mg "zip"=none) (ha:PA X [a,b] ta) (hK:X.K=K:=by rfl) (hs:starEach [a,b] X.env=[(false,eval a X.env),(false,eval b X.env)]:=by rfl) (hs2:starEach [b] X.env=[(false,eval b X.env)]:=by rfl) :
    PI X (.Tuple es x1 p3) (.Call (.Name "zip" p) [a,b] [] pos) (iZip K ta):=by
  subst hK
  intro pins s σ H R I h
  refine Call_ (ld_blt I hg hm boot_zip (PyProof.Rows.callWith_type1 (thn (ha pos pins s σ H _ I h) fun us s1 ⟨vs,H1,I1,r1,q1⟩=>?_) (by rw [hs,hs2]) (by rw [hs2];rfl)))
  obtain ⟨l1,l2,rfl,⟨xs,hx⟩,⟨ys,hy⟩,q⟩:=q1
  cases r1 with
  | cons r rr =>
    cases rr with
    | cons r' rr =>
      cases rr
      cases r
      cases r'
      obtain ⟨its,rv,pl1,_⟩:=I1.list hx
      obtain ⟨jts,rw_,pl2,_⟩:=I1.list hy
      refine call_zip_2 pl1.isList pl2.isList fun g k1 k2 k3 k4 k5 k6 k7=>?_
      refine wpAny_pyIter_zip k1 ?_
      have lt1:l1<s1.heap.objs.size:=by obtain ⟨o,e,_⟩:=pl1.isList;exact Heap.lt_size e
      have lt2:l2<s1.heap.objs.size:=by obtain ⟨o,e,_⟩:=pl2.isList;exact Heap.lt_size e
      have D:ZipApart (s1.heap.objs.size+4) (s1.heap.objs.size+2) (s1.heap.objs.size+3) s1.heap.objs.size (s1.heap.objs.size+1) l1 l2:=by
        constructor<;>(intro q;simp only [Addr] at *;omega)
      refine ⟨_,_,_,_,H1,rfl,I1.kept (t':=s1.toks) k7,turn_zip D,⟨k1,k2,⟨_,_,k3⟩,k4,k5⟩,fun c hc=>?_,q⟩
      have le:s1.heap.objs.size≤c:=by
        simp only [List.mem_cons,List.not_mem_nil,or_false] at hc
        rcases hc with q | q | q | q | q<;>subst q<;>first | exact Nat.le_refl _ | exact Nat.le_add_right _ _
      exact I1.fpOk le (I1.hok.fresh le)
theorem iZip_ap {K:PySem.W.Frag}{ta:TA}{σ:St}{H:Hp}{R:It→Hp→Prop}:iZip K ta σ H R=ta σ H fun vs H1=>∃ a b,vs=[.ref a,.ref b]∧(∃ xs,SqL K H1 a xs)∧(∃ ys,SqL K H1 b ys)∧R (Itz K a b) H1:=rfl
theorem tChain_ap {r r':R2}{ta tb tc:TE}{σ:St}{H:Hp}{Q:VK}:tChain r r' ta tb tc σ H Q=ta σ H fun x H1=>tb σ H1 fun y H2=>r x y H2 fun z H3=>∃ k,z=.bl k∧(if k=true then tc σ H3 fun w' H4=>r' y w' H4 Q else Q (.bl false) H3):=rfl
end L2
namespace L2
open PySem PySem.Spec PyProof.Rows
section
variable {x:V}{vs:List V}{H:Hp}{Q:VK}
theorem rClear_ap:rClear x vs H Q=∃ l xs,x=.ref l∧vs=[]∧H l=some (.lst xs)∧Q .non (upd H l (.lst [])):=rfl
end
end L2
namespace ZT
open PySem PySem.Spec PyProof.Rows
section
variable {prog:Program}{w:World}{A:Around}{E:Value→Shared→Prop}{s:Shared}
end
section
variable {prog:Program}{w:World}{A:Around}{E:Value→Shared→Prop}{s:Shared}
end
section
variable {prog:Program}{w:World}{A:Around}{E:Value→Shared→Prop}{s:Shared}
end
end ZT
namespace L2
open PySem PySem.Spec PyProof.Rows
structure ZipTt (z TI TO i1 i2 a b:Addr)(i:Nat)(h:Heap):Prop where
  z:IsZip h z TI TO .none
  ti:IsPair h TI (.ref i1) (.ref i2)
  to:∃ x y,IsPair h TO x y
  i1:IsTupIter h i1 a i
  i2:IsTupIter h i2 b i
end L2
namespace Srt
open PySem PyProof.Rows
def gallop':Bool→Keyed→Array Keyed→Nat→Nat→Nat→StateT SortSt Sem (Option Nat):=sortPriv% PySem.Builtin.gallop
def beyond' (left:Bool)(key:Keyed)(arr:Array Keyed)(base i:Nat):StateT SortSt Sem (Option Bool):=do
  let x ← elem' arr (base+i)
  if left then lt' x key else return (← lt' key x).map (!·)
structure Cmp (M:Model)(A:Around)(E:Value→Shared→Prop)(s:Shared)(kd:SortKind)(S:Keyed→Prop)(L:Keyed→Keyed→Bool):Prop where
  lt:∀ (x y:Keyed) (st:SortSt) (Q:Option Bool→SortSt→Prop),S x→S y→kindOf st=kd→Q (some (L x y)) st→wpS M A E s (lt' x y) Q st
  asym:∀ x y,L x y=true→L y x=false
  neg:∀ x y z,S x→S y→S z→L x z=true→L x y=true∨L y z=true
section
variable {M:Model}{A:Around}{E:Value→Shared→Prop}{s:Shared}{kd:SortKind}{S:Keyed→Prop}{L:Keyed→Keyed→Bool}
def pb (L:Keyed→Keyed→Bool)(left:Bool)(key:Keyed)(arr:Array Keyed)(base i:Nat):Bool:=match arr[base+i]? with
  | some x=>if left then L x key else !L key x
  | none=>false
theorem wpS_elem {arr:Array Keyed}{i:Nat}{x:Keyed}{st:SortSt}{Q:Keyed→SortSt→Prop}(e:arr[i]?=some x)(h:Q x st):wpS M A E s (elem' arr i) Q st:=by
  rw [elem'_eq,e]
  exact wpS_pure h
theorem wpS_beyond (C:Cmp M A E s kd S L){left:Bool}{key:Keyed}{arr:Array Keyed}{base i:Nat}{st:SortSt}{Q:Option Bool→SortSt→Prop}(hk:kindOf st=kd)(sk:S key)(sa:∀ x∈arr.toList,S x)(hi:base+i<arr.size)
    (h:Q (some (pb L left key arr base i)) st):wpS M A E s (beyond' left key arr base i) Q st:=by
  have e:arr[base+i]?=some (arr[base+i]'hi):=getElem?_pos arr (base+i) hi
  have sx:S (arr[base+i]'hi):=sa _ (by simp)
  unfold pb at h
  rw [e] at h
  unfold beyond'
  refine wpS_bind (wpS_elem e ?_)
  cases left with
  | true=>exact C.lt _ _ _ _ sx sk hk h
  | false =>
    simp only [Bool.false_eq_true,if_false] at h ⊢
    exact wpS_bind (C.lt _ _ _ _ sk sx hk (wpS_pure h))
theorem wpS_gallop (C:Cmp M A E s kd S L) {left:Bool} {key:Keyed} {arr:Array Keyed} {base n hint:Nat} {st:SortSt} {Q:Option Nat→SortSt→Prop} (hk:kindOf st=kd) (sk:S key) (sa:∀ x∈arr.toList,S x) (hn:base+n≤arr.size) (hh:hint<n)
    (mono:∀ i j,i≤j→j<n→pb L left key arr base j=true→pb L left key arr base i=true)
    (h:∀ k,k≤n→(∀ i,i<k→pb L left key arr base i=true)→(∀ i,k≤i→i<n→pb L left key arr base i=false)→Q (some k) st):wpS M A E s (gallop' left key arr base n hint) Q st:=by
  unfold gallop'
  k_delta "gallop"
  dsimp only
  generalize hp:pb L left key arr base=p at mono h
  have monoF:∀ i j,i≤j→j<n→p i=false→p j=false:=fun i j hij hj hi=>by
    cases e:p j with
    | false=>rfl
    | true=>rw [mono i j hij hj e] at hi;cases hi
  have ask:∀ {i:Nat} {Q':Option Bool→SortSt→Prop},i<n→Q' (some (p i)) st→wpS M A E s (beyond' left key arr base i) Q' st:=fun hi q =>
    wpS_beyond C hk sk sa (by omega) (by rw [hp];exact q)
  refine wpS_bind (ask hh ?_)
  dsimp only
  cases e0:p hint with
  | true =>
    rw [if_pos rfl]
    refine wpS_bind (wpS_mono (wpS_forRange (I:=fun x c st'=>st=st'∧c.1=none∧c.2.1<c.2.2∧hint+c.2.1<n∧x+1≤c.2.2∧p (hint+c.2.1)=true)
      (Q:=fun c st'=>st=st'∧c.1=none∧c.2.1<c.2.2∧hint+c.2.1<n∧p (hint+c.2.1)=true∧(c.2.2≥n-hint∨p (hint+c.2.2)=false)) ?step ?fin ?init) ?post)
    case init=>exact ⟨rfl,rfl,Nat.one_pos,hh,Nat.le_refl _,e0⟩
    case fin =>
      rintro ⟨c1,c2,c3⟩ st' ⟨rfl,e1,g1,g2,g3,g4⟩
      refine ⟨rfl,e1,g1,g2,g4,.inl ?_⟩
      dsimp only at *
      omega
    case step =>
      rintro x ⟨c1,c2,c3⟩ st' _ hx ⟨rfl,e1,g1,g2,g3,g4⟩
      dsimp only at *
      subst e1
      by_cases hlt:c3≥n-hint
      · rw [if_pos hlt]
        exact wpS_pure ⟨rfl,rfl,g1,g2,g4,.inl hlt⟩
      · rw [if_neg hlt]
        refine wpS_bind (ask (by omega) ?_)
        dsimp only
        cases e:p (hint+c3) with
        | true =>
          rw [if_neg (by decide)]
          refine wpS_pure ⟨rfl,rfl,?_,?_,?_,e⟩
          · show c3<2*c3+1
            omega
          · show hint+c3<n
            omega
          · show x+1+1≤2*c3+1
            omega
        | false =>
          rw [if_pos (by decide)]
          exact wpS_pure ⟨rfl,rfl,g1,g2,g4,.inr e⟩
    case post =>
      rintro ⟨c1,c2,c3⟩ st' ⟨rfl,e1,g1,g2,g4,g5⟩
      dsimp only at *
      subst e1
      dsimp only
      have h1:hint+c2+1≤hint+min c3 (n-hint):=by omega
      have h2:hint+min c3 (n-hint)≤n:=by omega
      have h3:∀ i,i<hint+c2+1→p i=true:=fun i hi=>mono i (hint+c2) (by omega) g2 g4
      have h4:∀ i,hint+min c3 (n-hint)≤i→i<n→p i=false:=by
        intro i hi hin
        rcases g5 with z | z
        · omega
        · by_cases hc:c3≥n-hint
          · omega
          · exact monoF _ i (by omega) hin z
      clear g1 g2 g4 g5
      refine wpS_bind (wpS_mono (wpS_forRange (I:=fun x c st'=>st=st'∧c.1=none∧c.2.1≤c.2.2∧c.2.2≤n∧(c.2.2-c.2.1≤n-x)∧(∀ i,i<c.2.1→p i=true)∧(∀ i,c.2.2≤i→i<n→p i=false))
        (Q:=fun c st'=>st=st'∧c.1=none∧c.2.2≤n∧(∀ i,i<c.2.2→p i=true)∧(∀ i,c.2.2≤i→i<n→p i=false)) ?step2 ?fin2 ?init2) ?post2)
      case init2=>exact ⟨rfl,rfl,h1,h2,Nat.le_trans (Nat.sub_le _ _) h2,h3,h4⟩
      case fin2 =>
        rintro ⟨c1,c2,c3⟩ st' ⟨rfl,e1,g1,g2,g3,g4,g5⟩
        dsimp only at *
        have:c2=c3:=by omega
        subst this
        exact ⟨rfl,e1,g2,g4,g5⟩
      case post2 =>
        rintro ⟨c1,c2,c3⟩ st' ⟨rfl,e1,g2,g4,g5⟩
        dsimp only at *
        subst e1
        exact wpS_pure (h _ g2 g4 g5)
      case step2 =>
        rintro x ⟨c1,c2,c3⟩ st' _ hx ⟨rfl,e1,g1,g2,g3,g4,g5⟩
        dsimp only at *
        subst e1
        by_cases hlt:c2≥c3
        · rw [if_pos hlt]
          have:c2=c3:=by omega
          subst this
          exact wpS_pure ⟨rfl,rfl,g2,g4,g5⟩
        · rw [if_neg hlt]
          refine wpS_bind (ask (by omega) ?_)
          dsimp only
          cases e:p (c2+(c3-c2)/2) with
          | true =>
            rw [if_pos rfl]
            refine wpS_pure ⟨rfl,rfl,?_,g2,?_,fun i hi=>?_,g5⟩
            · show c2+(c3-c2)/2+1≤c3
              omega
            · show c3-(c2+(c3-c2)/2+1)≤n-(x+1)
              omega
            · have hi:i<c2+(c3-c2)/2+1:=hi
              exact mono i _ (by omega) (by omega) e
          | false =>
            rw [if_neg (by decide)]
            refine wpS_pure ⟨rfl,rfl,?_,?_,?_,g4,fun i hi hin=>monoF _ i hi hin e⟩
            · show c2≤c2+(c3-c2)/2
              omega
            · show c2+(c3-c2)/2≤n
              omega
            · show c2+(c3-c2)/2-c2≤n-(x+1)
              omega
  | false =>
    rw [if_neg (by decide)]
    refine wpS_bind (wpS_mono (wpS_forRange (I:=fun x c st'=>st=st'∧c.1=none∧c.2.1<c.2.2∧c.2.1≤hint∧x+1≤c.2.2∧p (hint-c.2.1)=false)
      (Q:=fun c st'=>st=st'∧c.1=none∧c.2.1<c.2.2∧c.2.1≤hint∧p (hint-c.2.1)=false∧(c.2.2≥hint+1∨p (hint-c.2.2)=true)) ?step ?fin ?init) ?post)
    case init=>exact ⟨rfl,rfl,Nat.one_pos,Nat.zero_le _,Nat.le_refl _,e0⟩
    case fin =>
      rintro ⟨c1,c2,c3⟩ st' ⟨rfl,e1,g1,g2,g3,g4⟩
      refine ⟨rfl,e1,g1,g2,g4,.inl ?_⟩
      dsimp only at *
      omega
    case step =>
      rintro x ⟨c1,c2,c3⟩ st' _ hx ⟨rfl,e1,g1,g2,g3,g4⟩
      dsimp only at *
      subst e1
      by_cases hlt:c3≥hint+1
      · rw [if_pos hlt]
        exact wpS_pure ⟨rfl,rfl,g1,g2,g4,.inl hlt⟩
      · rw [if_neg hlt]
        refine wpS_bind (ask (by omega) ?_)
        dsimp only
        cases e:p (hint-c3) with
        | true =>
          rw [if_pos rfl]
          exact wpS_pure ⟨rfl,rfl,g1,g2,g4,.inr e⟩
        | false =>
          rw [if_neg (by decide)]
          refine wpS_pure ⟨rfl,rfl,?_,?_,?_,e⟩
          · show c3<2*c3+1
            omega
          · show c3≤hint
            omega
          · show x+1+1≤2*c3+1
            omega
    case post =>
      rintro ⟨c1,c2,c3⟩ st' ⟨rfl,e1,g1,g2,g4,g5⟩
      dsimp only at *
      subst e1
      dsimp only
      have h1:hint+1-min c3 (hint+1)≤hint-c2:=by omega
      have h2:hint-c2≤n:=by omega
      have h3:∀ i,i<hint+1-min c3 (hint+1)→p i=true:=by
        intro i hi
        rcases g5 with z | z
        · omega
        · by_cases hc:c3≥hint+1
          · omega
          · exact mono i (hint-c3) (by omega) (by omega) z
      have h4:∀ i,hint-c2≤i→i<n→p i=false:=fun i hi hin=>monoF _ i hi hin g4
      clear g1 g2 g4 g5
      refine wpS_bind (wpS_mono (wpS_forRange (I:=fun x c st'=>st=st'∧c.1=none∧c.2.1≤c.2.2∧c.2.2≤n∧(c.2.2-c.2.1≤n-x)∧(∀ i,i<c.2.1→p i=true)∧(∀ i,c.2.2≤i→i<n→p i=false))
        (Q:=fun c st'=>st=st'∧c.1=none∧c.2.2≤n∧(∀ i,i<c.2.2→p i=true)∧(∀ i,c.2.2≤i→i<n→p i=false)) ?step2 ?fin2 ?init2) ?post2)
      case init2=>exact ⟨rfl,rfl,h1,h2,Nat.le_trans (Nat.sub_le _ _) h2,h3,h4⟩
      case fin2 =>
        rintro ⟨c1,c2,c3⟩ st' ⟨rfl,e1,g1,g2,g3,g4,g5⟩
        dsimp only at *
        have:c2=c3:=by omega
        subst this
        exact ⟨rfl,e1,g2,g4,g5⟩
      case post2 =>
        rintro ⟨c1,c2,c3⟩ st' ⟨rfl,e1,g2,g4,g5⟩
        dsimp only at *
        subst e1
        exact wpS_pure (h _ g2 g4 g5)
      case step2 =>
        rintro x ⟨c1,c2,c3⟩ st' _ hx ⟨rfl,e1,g1,g2,g3,g4,g5⟩
        dsimp only at *
        subst e1
        by_cases hlt:c2≥c3
        · rw [if_pos hlt]
          have:c2=c3:=by omega
          subst this
          exact wpS_pure ⟨rfl,rfl,g2,g4,g5⟩
        · rw [if_neg hlt]
          refine wpS_bind (ask (by omega) ?_)
          dsimp only
          cases e:p (c2+(c3-c2)/2) with
          | true =>
            rw [if_pos rfl]
            refine wpS_pure ⟨rfl,rfl,?_,g2,?_,fun i hi=>?_,g5⟩
            · show c2+(c3-c2)/2+1≤c3
              omega
            · show c3-(c2+(c3-c2)/2+1)≤n-(x+1)
              omega
            · have hi:i<c2+(c3-c2)/2+1:=hi
              exact mono i _ (by omega) (by omega) e
          | false =>
            rw [if_neg (by decide)]
            refine wpS_pure ⟨rfl,rfl,?_,?_,?_,g4,fun i hi hin=>monoF _ i hi hin e⟩
            · show c2≤c2+(c3-c2)/2
              omega
            · show c2+(c3-c2)/2≤n
              omega
            · show c2+(c3-c2)/2-c2≤n-(x+1)
              omega
end
end Srt
namespace Srt
open PySem PyProof.Rows
structure Ord (S:Keyed→Prop)(L:Keyed→Keyed→Bool):Prop where
  asym:∀ x y,L x y=true→L y x=false
  neg:∀ x y z,S x→S y→S z→L x z=true→L x y=true∨L y z=true
abbrev Rise (L:Keyed→Keyed→Bool)(l:List Keyed):Prop:=l.Pairwise fun x y=>L y x=false
section
variable {S:Keyed→Prop}{L:Keyed→Keyed→Bool}
theorem Ord.step (O:Ord S L){x y z:Keyed}(sx:S x)(sy:S y)(sz:S z)(h1:L z y=false)(h2:L y x=false):L z x=false:=by
  cases e:L z x with
  | false=>rfl
  | true =>
    rcases O.neg z y x sz sy sx e with q | q
    · rw [q] at h1;cases h1
    · rw [q] at h2;cases h2
structure MI (L:Keyed→Keyed→Bool)(al bl ol:List Keyed)(ia ib:Nat):Prop where
  perm:ol.Perm (al.take ia++bl.take ib)
  rise:Rise L ol
  lea:∀ x∈ol,∀ y∈al.drop ia,L y x=false
  leb:∀ x∈ol,∀ y∈bl.drop ib,L y x=false
  ha:ia≤al.length
  hb:ib≤bl.length
theorem MI.len {al bl ol:List Keyed}{ia ib:Nat}(h:MI L al bl ol ia ib):ol.length=ia+ib:=by
  rw [h.perm.length_eq,List.length_append,List.length_take,List.length_take]
  have:=h.ha
  have:=h.hb
  omega
theorem take_add' {α:Type}(l:List α)(i k:Nat):l.take (i+k)=l.take i++(l.drop i).take k:=by rw [List.take_add]
theorem drop_sub {α:Type}{l:List α}{i k:Nat}{y:α}(h:y∈l.drop (i+k)):y∈l.drop i:=by
  rw [← List.drop_drop] at h
  exact List.mem_of_mem_drop h
theorem rise_take_drop {l:List Keyed}(h:Rise L l)(i k:Nat):∀ x∈(l.drop i).take k,∀ y∈l.drop (i+k),L y x=false:=by
  intro x hx y hy
  have h2:Rise L (l.drop i):=h.sublist (List.drop_sublist _ _)
  rw [← List.take_append_drop k (l.drop i)] at h2
  rw [← List.drop_drop] at hy
  exact (List.pairwise_append.mp h2).2.2 x hx y hy
theorem MI.takeB {al bl ol:List Keyed}{ia ib:Nat}(h:MI L al bl ol ia ib)(rb:Rise L bl)(k:Nat)(hk:ib+k≤bl.length)(c:∀ y∈(bl.drop ib).take k,∀ z∈al.drop ia,L z y=false):MI L al bl (ol++(bl.drop ib).take k) ia (ib+k) where
  perm:=by
    rw [take_add',← List.append_assoc]
    exact h.perm.append_right _
  rise:=List.pairwise_append.mpr ⟨h.rise,(rb.sublist (List.drop_sublist _ _)).sublist (List.take_sublist _ _),fun x hx y hy=>h.leb x hx y (List.mem_of_mem_take hy)⟩
  lea:=fun x hx y hy=>by
    rcases List.mem_append.mp hx with z | z
    · exact h.lea x z y hy
    · exact c x z y hy
  leb:=fun x hx y hy=>by
    rcases List.mem_append.mp hx with z | z
    · exact h.leb x z y (drop_sub hy)
    · exact rise_take_drop rb ib k x z y hy
  ha:=h.ha
  hb:=hk
theorem MI.takeA {al bl ol:List Keyed}{ia ib:Nat}(h:MI L al bl ol ia ib)(ra:Rise L al)(k:Nat)(hk:ia+k≤al.length)(c:∀ y∈(al.drop ia).take k,∀ z∈bl.drop ib,L z y=false):MI L al bl (ol++(al.drop ia).take k) (ia+k) ib where
  perm:=by
    rw [take_add']
    refine (h.perm.append_right _).trans ?_
    rw [List.append_assoc,List.append_assoc]
    exact List.Perm.append_left _ List.perm_append_comm
  rise:=List.pairwise_append.mpr ⟨h.rise,(ra.sublist (List.drop_sublist _ _)).sublist (List.take_sublist _ _),fun x hx y hy=>h.lea x hx y (List.mem_of_mem_take hy)⟩
  lea:=fun x hx y hy=>by
    rcases List.mem_append.mp hx with z | z
    · exact h.lea x z y (drop_sub hy)
    · exact rise_take_drop ra ia k x z y hy
  leb:=fun x hx y hy=>by
    rcases List.mem_append.mp hx with z | z
    · exact h.leb x z y hy
    · exact c x z y hy
  ha:=hk
  hb:=h.hb
abbrev Mrg (L:Keyed→Keyed→Bool)(al bl ol:List Keyed):Prop:=ol.Perm (al++bl)∧Rise L ol
theorem MI.doneA {al bl ol:List Keyed}{ia:Nat}(h:MI L al bl ol ia bl.length)(ra:Rise L al):Mrg L al bl (ol++al.drop ia):=by
  constructor
  · refine (h.perm.append_right _).trans ?_
    rw [List.take_of_length_le (Nat.le_refl _),List.append_assoc]
    refine (List.Perm.append_left _ List.perm_append_comm).trans ?_
    rw [← List.append_assoc,List.take_append_drop]
  · exact List.pairwise_append.mpr ⟨h.rise,ra.sublist (List.drop_sublist _ _),h.lea⟩
theorem MI.doneB {al bl ol:List Keyed}{ib:Nat}(h:MI L al bl ol al.length ib)(rb:Rise L bl):Mrg L al bl (ol++bl.drop ib):=by
  constructor
  · refine (h.perm.append_right _).trans ?_
    rw [List.take_of_length_le (Nat.le_refl al.length),List.append_assoc,List.take_append_drop]
  · exact List.pairwise_append.mpr ⟨h.rise,rb.sublist (List.drop_sublist _ _),h.leb⟩
theorem MI.lastA {al bl ol:List Keyed}{ia ib:Nat}(h:MI L al bl ol ia ib)(ra:Rise L al)(rb:Rise L bl)(c:∀ y∈bl.drop ib,∀ z∈al.drop ia,L z y=false):Mrg L al bl (ol++bl.drop ib++al.drop ia):=by
  constructor
  · refine ((h.perm.append_right _).append_right _).trans ?_
    have e:al.take ia++bl.take ib++bl.drop ib++al.drop ia=al.take ia++(bl++al.drop ia):=by
      rw [List.append_assoc (al.take ia),List.take_append_drop,List.append_assoc]
    rw [e]
    refine (List.Perm.append_left _ List.perm_append_comm).trans ?_
    rw [← List.append_assoc,List.take_append_drop]
  · refine List.pairwise_append.mpr ⟨List.pairwise_append.mpr ⟨h.rise,rb.sublist (List.drop_sublist _ _),h.leb⟩,ra.sublist (List.drop_sublist _ _),fun x hx y hy=>?_⟩
    rcases List.mem_append.mp hx with z | z
    · exact h.lea x z y hy
    · exact c x z y hy
end
def mergeLo':Array Keyed→Array Keyed→StateT SortSt Sem (Array Keyed):=sortPriv% PySem.Builtin.mergeLo
def setMinGallop':Nat→StateT SortSt Sem Unit:=sortPriv% PySem.Builtin.setMinGallop
theorem setMinGallop'_eq (g:Nat):setMinGallop' g=modify fun s=>SortSt.mk' (kindOf s) (arrOf s) (pendingOf s) g (failedOf s):=rfl
structure Sm (st st':SortSt):Prop where
  kind:kindOf st'=kindOf st
  arr:arrOf st'=arrOf st
  pend:pendingOf st'=pendingOf st
  failed:failedOf st'=failedOf st
section
variable {M:Model}{A:Around}{E:Value→Shared→Prop}{s:Shared}{kd:SortKind}{S:Keyed→Prop}{L:Keyed→Keyed→Bool}
theorem Cmp.ord (C:Cmp M A E s kd S L):Ord S L:=⟨C.asym,C.neg⟩
theorem drop_get {a:Array Keyed}{i:Nat}(h:i<a.size):a.toList.drop i=a[i]::a.toList.drop (i+1):=by
  rw [List.drop_eq_getElem_cons (by simpa using h)]
  simp
theorem mem_arr {a:Array Keyed}{i:Nat}(h:i<a.size):a[i]∈a.toList:=by simp
theorem head_le {a:Array Keyed}{i:Nat}(ra:Rise L a.toList)(h:i<a.size):∀ z∈a.toList.drop (i+1),L z a[i]=false:=by
  intro z hz
  have h2:Rise L (a.toList.drop i):=ra.sublist (List.drop_sublist _ _)
  rw [drop_get h] at h2
  exact (List.pairwise_cons.mp h2).1 z hz
theorem all_le (O:Ord S L){a:Array Keyed}{i:Nat}(sa:∀ x∈a.toList,S x)(ra:Rise L a.toList)(h:i<a.size){y:Keyed}(sy:S y)(c:L a[i] y=false):∀ z∈a.toList.drop i,L z y=false:=by
  intro z hz
  rw [drop_get h] at hz
  rcases List.mem_cons.mp hz with e | e
  · rw [e]
    exact c
  · exact O.step sy (sa _ (mem_arr h)) (sa _ (List.mem_of_mem_drop e)) (head_le ra h z e) c
variable {a b out:Array Keyed}{ia ib k:Nat}
theorem MI.pushB (O:Ord S L)(m:MI L a.toList b.toList out.toList ia ib)(sa:∀ x∈a.toList,S x)(sb:∀ x∈b.toList,S x)(ra:Rise L a.toList)(rb:Rise L b.toList)(hia:ia<a.size)(hib:ib<b.size)(c:L a[ia] b[ib]=false) :
    MI L a.toList b.toList (out.push b[ib]).toList ia (ib+1):=by
  have e:(b.toList.drop ib).take 1=[b[ib]]:=by rw [drop_get hib];rfl
  have:=m.takeB rb 1 (by simp;omega) (by
    rw [e]
    intro y hy z hz
    have hy:y=b[ib]:=by simpa using hy
    subst hy
    exact all_le O sa ra hia (sb _ (mem_arr hib)) c z hz)
  rw [e] at this
  rw [Array.toList_push]
  exact this
theorem MI.pushA (O:Ord S L)(m:MI L a.toList b.toList out.toList ia ib)(sa:∀ x∈a.toList,S x)(sb:∀ x∈b.toList,S x)(ra:Rise L a.toList)(rb:Rise L b.toList)(hia:ia<a.size)(hib:ib<b.size)(c:L b[ib] a[ia]=false) :
    MI L a.toList b.toList (out.push a[ia]).toList (ia+1) ib:=by
  have e:(a.toList.drop ia).take 1=[a[ia]]:=by rw [drop_get hia];rfl
  have:=m.takeA ra 1 (by simp;omega) (by
    rw [e]
    intro y hy z hz
    have hy:y=a[ia]:=by simpa using hy
    subst hy
    exact all_le O sb rb hib (sa _ (mem_arr hia)) c z hz)
  rw [e] at this
  rw [Array.toList_push]
  exact this
theorem ext_list (a:Array Keyed)(i k:Nat):(a.extract i (i+k)).toList=(a.toList.drop i).take k:=by
  simp [List.extract_eq_take_drop]
theorem ext_all (a:Array Keyed)(i:Nat):(a.extract i a.size).toList=a.toList.drop i:=by
  simp only [Array.toList_extract,List.extract_eq_take_drop]
  exact List.take_of_length_le (by simp)
theorem mem_take_drop {a:Array Keyed}{i k:Nat}{x:Keyed}(h:x∈(a.toList.drop i).take k):∃ j,j<k∧∃ q:i+j<a.size,x=a[i+j]:=by
  obtain ⟨j,hj,e⟩:=List.mem_iff_getElem.mp h
  rw [List.length_take,List.length_drop] at hj
  have:i+j<a.size:=by simp at hj;omega
  refine ⟨j,by omega,this,?_⟩
  rw [← e]
  simp
theorem MI.extA (O:Ord S L)(m:MI L a.toList b.toList out.toList ia ib)(sa:∀ x∈a.toList,S x)(sb:∀ x∈b.toList,S x)(ra:Rise L a.toList)(rb:Rise L b.toList)(hib:ib<b.size)(hk:ia+k≤a.size)(c:∀ i,i<k→pb L false b[ib] a ia i=true) :
    MI L a.toList b.toList (out++a.extract ia (ia+k)).toList (ia+k) ib:=by
  rw [Array.toList_append,ext_list]
  refine m.takeA ra k (by simpa using hk) fun y hy z hz=>?_
  obtain ⟨j,hj,q,rfl⟩:=mem_take_drop hy
  have:=c j hj
  unfold pb at this
  rw [getElem?_pos a (ia+j) q] at this
  simp only [Bool.false_eq_true,if_false,Bool.not_eq_true'] at this
  exact all_le O sb rb hib (sa _ (mem_arr q)) this z hz
theorem MI.extB (O:Ord S L)(m:MI L a.toList b.toList out.toList ia ib)(sa:∀ x∈a.toList,S x)(sb:∀ x∈b.toList,S x)(ra:Rise L a.toList)(rb:Rise L b.toList)(hia:ia<a.size)(hk:ib+k≤b.size)(c:∀ i,i<k→pb L true a[ia] b ib i=true) :
    MI L a.toList b.toList (out++b.extract ib (ib+k)).toList ia (ib+k):=by
  rw [Array.toList_append,ext_list]
  refine m.takeB rb k (by simpa using hk) fun y hy z hz=>?_
  obtain ⟨j,hj,q,rfl⟩:=mem_take_drop hy
  have:=c j hj
  unfold pb at this
  rw [getElem?_pos b (ib+j) q] at this
  simp only [if_true] at this
  exact all_le O sa ra hia (sb _ (mem_arr q)) (O.asym _ _ this) z hz
theorem MI.finA (m:MI L a.toList b.toList out.toList ia ib)(ra:Rise L a.toList)(e:ib=b.size):Mrg L a.toList b.toList (out++a.extract ia a.size++b.extract ib b.size).toList:=by
  have e1:ib=b.toList.length:=by simpa using e
  subst e1
  rw [Array.toList_append,Array.toList_append,ext_all,ext_all,List.drop_of_length_le (Nat.le_refl _),List.append_nil]
  exact m.doneA ra
theorem MI.finB (m:MI L a.toList b.toList out.toList ia ib)(rb:Rise L b.toList)(e:ia=a.size):Mrg L a.toList b.toList (out++a.extract ia a.size++b.extract ib b.size).toList:=by
  have e1:ia=a.toList.length:=by simpa using e
  subst e1
  rw [Array.toList_append,Array.toList_append,ext_all,ext_all,List.drop_of_length_le (Nat.le_refl a.toList.length),List.append_nil]
  exact m.doneB rb
theorem MI.finL (m:MI L a.toList b.toList out.toList ia ib)(ra:Rise L a.toList)(rb:Rise L b.toList)(e:ia+1=a.size)(hl:∀ z∈a.toList.drop (a.size-1),∀ y∈b.toList,L z y=false) :
    Mrg L a.toList b.toList (out++b.extract ib b.size++a.extract ia a.size).toList:=by
  rw [Array.toList_append,Array.toList_append,ext_all,ext_all]
  refine m.lastA ra rb fun y hy z hz=>hl z (by rw [← e];exact hz) y (List.mem_of_mem_drop hy)
structure MS (L:Keyed→Keyed→Bool)(st:SortSt)(a b out:Array Keyed)(ia ib:Nat)(st':SortSt):Prop where
  sm:Sm st st'
  mi:MI L a.toList b.toList out.toList ia ib
  ha:ia+1<a.size
  hb:ib<b.size
theorem MI.size {a b out:Array Keyed}{ia ib:Nat}(m:MI L a.toList b.toList out.toList ia ib):out.size=ia+ib:=by
  have:=m.len
  simpa using this
theorem Sm.refl (st:SortSt):Sm st st:=⟨rfl,rfl,rfl,rfl⟩
theorem Sm.gal {st st':SortSt}(h:Sm st st')(g:Nat):Sm st (SortSt.mk' (kindOf st') (arrOf st') (pendingOf st') g (failedOf st')):=⟨h.kind,h.arr,h.pend,h.failed⟩
theorem wpS_setGallop {g:Nat}{st:SortSt}{Q:Unit→SortSt→Prop}(h:Q () (SortSt.mk' (kindOf st) (arrOf st) (pendingOf st) g (failedOf st))):wpS M A E s (setMinGallop' g) Q st:=by
  rw [setMinGallop'_eq]
  exact wpS_modify h
theorem pb_mono_r (O:Ord S L){a:Array Keyed}{ia n:Nat}{key:Keyed}(sa:∀ x∈a.toList,S x)(ra:Rise L a.toList)(sk:S key)(hn:ia+n≤a.size):∀ i j,i≤j→j<n→pb L false key a ia j=true→pb L false key a ia i=true:=by
  intro i j hij hj h
  unfold pb at *
  rw [getElem?_pos a (ia+j) (by omega)] at h
  rw [getElem?_pos a (ia+i) (by omega)]
  simp only [Bool.false_eq_true,if_false,Bool.not_eq_true'] at h ⊢
  rcases Nat.lt_or_ge i j with q | q
  · have:=head_le ra (i:=ia+i) (by omega) (a[ia+j]'(by omega)) (List.mem_iff_getElem.mpr ⟨j-i-1,by simp;omega,by simp;congr 1;omega⟩)
    exact O.step (sa _ (mem_arr _)) (sa _ (mem_arr _)) sk h this
  · have:i=j:=by omega
    subst this
    exact h
theorem pb_mono_l (O:Ord S L){a:Array Keyed}{ia n:Nat}{key:Keyed}(sa:∀ x∈a.toList,S x)(ra:Rise L a.toList)(sk:S key)(hn:ia+n≤a.size):∀ i j,i≤j→j<n→pb L true key a ia j=true→pb L true key a ia i=true:=by
  intro i j hij hj h
  unfold pb at *
  rw [getElem?_pos a (ia+j) (by omega)] at h
  rw [getElem?_pos a (ia+i) (by omega)]
  simp only [if_true] at h ⊢
  rcases Nat.lt_or_ge i j with q | q
  · have:=head_le ra (i:=ia+i) (by omega) (a[ia+j]'(by omega)) (List.mem_iff_getElem.mpr ⟨j-i-1,by simp;omega,by simp;congr 1;omega⟩)
    rcases O.neg _ _ _ (sa _ (mem_arr _)) (sa _ (mem_arr (i:=ia+i) (by omega))) sk h with z | z
    · rw [this] at z
      cases z
    · exact z
  · have:i=j:=by omega
    subst this
    exact h
theorem pb_f {a:Array Keyed}{ia i:Nat}{key:Keyed}(q:ia+i<a.size):pb L false key a ia i=!L key a[ia+i]:=by
  unfold pb
  rw [getElem?_pos a (ia+i) q]
  rfl
theorem pb_t {a:Array Keyed}{ia i:Nat}{key:Keyed}(q:ia+i<a.size):pb L true key a ia i=L a[ia+i] key:=by
  unfold pb
  rw [getElem?_pos a (ia+i) q]
  rfl
theorem wpS_jp1 {α β γ:Type}{X:StateT SortSt Sem α}{Q:α→SortSt→Prop}{st:SortSt}(v:β→γ→StateT SortSt Sem α)(hv:∀ q x,wpS M A E s (v q x) Q st)(h:(∀ q x,wpS M A E s (v q x) Q st)→wpS M A E s X Q st):wpS M A E s X Q st:=h hv
theorem wpS_jp2 {α β γ δ:Type}{X:StateT SortSt Sem α}{Q:α→SortSt→Prop}{st:SortSt}(v:β→γ→δ→StateT SortSt Sem α)(P:γ→δ→Prop)(hv:∀ q x y,P x y→wpS M A E s (v q x y) Q st)(h:(∀ q x y,P x y→wpS M A E s (v q x y) Q st)→wpS M A E s X Q st):wpS M A E s X Q st:=h hv
theorem wpS_mergeLo (C:Cmp M A E s kd S L) {a b:Array Keyed} {st:SortSt} {Q:Array Keyed→SortSt→Prop} (hk:kindOf st=kd) (sa:∀ x∈a.toList,S x) (sb:∀ x∈b.toList,S x) (ra:Rise L a.toList) (rb:Rise L b.toList) (na:0<a.size) (nb:0<b.size)
    (h0:∀ z∈a.toList,L z b[0]=false) (hl:∀ z∈a.toList.drop (a.size-1),∀ y∈b.toList,L z y=false)
    (h:∀ o st',Sm st st'→Mrg L a.toList b.toList o.toList→Q o st'):wpS M A E s (mergeLo' a b) Q st:=by
  have O:=C.ord
  unfold mergeLo'
  k_delta "mergeLo"
  refine wpS_bind (wpS_lift (wpAny_rule ⟨rfl,?_⟩))
  refine wpS_bind (wpS_elem (getElem?_pos b 0 nb) ?_)
  dsimp -zeta only
  have nil:MI L a.toList b.toList (#[]:Array Keyed).toList 0 0:=⟨by simp,.nil,fun _ z=>by simp at z,fun _ z=>by simp at z,Nat.zero_le _,Nat.zero_le _⟩
  have ini:MI L a.toList b.toList (#[b[0]]:Array Keyed).toList 0 1:=nil.pushB O sa sb ra rb na nb (h0 _ (mem_arr na))
  by_cases e1:(1==b.size)=true
  · rw [if_pos e1]
    exact wpS_pure (h _ _ (Sm.refl _) (ini.finA ra (by simpa using e1)))
  rw [if_neg e1]
  by_cases e2:(0+1==a.size)=true
  · rw [if_pos e2]
    exact wpS_pure (h _ _ (Sm.refl _) (ini.finL ra rb (by simpa using e2) hl))
  rw [if_neg e2]
  have e1':1<b.size:=by
    have:1≠b.size:=by simpa using e1
    omega
  have e2':1<a.size:=by
    have:1≠a.size:=by simpa using e2
    omega
  refine wpS_bind (wpS_get ?_)
  refine wpS_bind (wpS_mono (wpS_forRange (I:=fun x c st'=>c.1=none∧MS L st a b c.2.1 c.2.2.1 c.2.2.2.1 st'∧x+1≤c.2.1.size) (Q:=fun c st'=>∃ o,c.1=some o∧Sm st st'∧Mrg L a.toList b.toList o.toList) ?step ?fin ?init) ?post)
  case init=>exact ⟨rfl,⟨Sm.refl _,ini,e2',e1'⟩,by simp⟩
  case fin =>
    rintro ⟨c1,out,ia,ib,g⟩ st' ⟨_,ms,hs⟩
    dsimp only at *
    have:=ms.mi.size
    have:=ms.ha
    have:=ms.hb
    omega
  case post =>
    rintro ⟨c1,out,ia,ib,g⟩ st' ⟨o,rfl,sm,m⟩
    exact wpS_pure (h _ _ sm m)
  case step =>
    rintro x ⟨c1,out,ia,ib,g⟩ st' _ hx ⟨rfl,ms,hs⟩
    dsimp -zeta only at *
    refine wpS_bind (wpS_mono (wpS_forRange (I:=fun _ c st'=>c.1=none∧MS L st a b c.2.1 c.2.2.1 c.2.2.2.1 st'∧x+1≤c.2.1.size)
      (Q:=fun c st'=>(∃ o,c.1=some o∧Sm st st'∧Mrg L a.toList b.toList o.toList)∨(c.1=none∧MS L st a b c.2.1 c.2.2.1 c.2.2.2.1 st'∧x+1≤c.2.1.size)) ?step1 (fun _ _ z=>.inr z) ?init1) ?post1)
    case init1=>exact ⟨rfl,ms,hs⟩
    case step1 =>
      rintro y ⟨c1,out,ia,ib,ac,bc⟩ st' _ hy ⟨rfl,ms,hs⟩
      dsimp only at *
      have hib:=ms.hb
      have hia:ia<a.size:=by have:=ms.ha;omega
      refine wpS_bind (wpS_elem (getElem?_pos b ib hib) ?_)
      refine wpS_bind (wpS_elem (getElem?_pos a ia hia) ?_)
      refine wpS_bind (C.lt _ _ _ _ (sb _ (mem_arr hib)) (sa _ (mem_arr hia)) (ms.sm.kind.trans hk) ?_)
      dsimp only
      cases e:L b[ib] a[ia] with
      | true =>
        rw [if_pos rfl]
        refine wpS_bind (wpS_elem (getElem?_pos b ib hib) ?_)
        have m2:=ms.mi.pushB O sa sb ra rb hia hib (C.asym _ _ e)
        by_cases z:(ib+1==b.size)=true
        · rw [if_pos z]
          exact wpS_pure (.inl ⟨_,rfl,ms.sm,m2.finA ra (by simpa using z)⟩)
        · rw [if_neg z]
          have z':ib+1<b.size:=by
            have:ib+1≠b.size:=by simpa using z
            omega
          split
          · exact wpS_pure (.inr ⟨rfl,⟨ms.sm,m2,ms.ha,z'⟩,by simp;omega⟩)
          · exact wpS_pure ⟨rfl,⟨ms.sm,m2,ms.ha,z'⟩,by simp;omega⟩
      | false =>
        rw [if_neg (by decide)]
        refine wpS_bind (wpS_elem (getElem?_pos a ia hia) ?_)
        have m2:=ms.mi.pushA O sa sb ra rb hia hib e
        by_cases z:(ia+1+1==a.size)=true
        · rw [if_pos z]
          exact wpS_pure (.inl ⟨_,rfl,ms.sm,m2.finL ra rb (by simpa using z) hl⟩)
        · rw [if_neg z]
          have z':ia+1+1<a.size:=by
            have:ia+1+1≠a.size:=by simpa using z
            have:=ms.ha
            omega
          split
          · exact wpS_pure (.inr ⟨rfl,⟨ms.sm,m2,z',hib⟩,by simp;omega⟩)
          · exact wpS_pure ⟨rfl,⟨ms.sm,m2,z',hib⟩,by simp;omega⟩
    case post1 =>
      rintro ⟨c1,out,ia,ib,ac,bc⟩ st' (⟨o,rfl,sm,m⟩ | ⟨rfl,ms,hs⟩)
      · exact wpS_pure ⟨o,rfl,sm,m⟩
      · dsimp -zeta only at *
        refine wpS_bind (wpS_lift (wpAny_rule ⟨rfl,?_⟩))
        refine wpS_bind (wpS_mono (wpS_forRange (I:=fun y c st'=>c.1=none∧MS L st a b c.2.1 c.2.2.1 c.2.2.2.1 st'∧x+1+y≤c.2.1.size)
          (Q:=fun c st'=>(∃ o,c.1=some o∧Sm st st'∧Mrg L a.toList b.toList o.toList)∨(c.1=none∧MS L st a b c.2.1 c.2.2.1 c.2.2.2.1 st'∧x+2≤c.2.1.size)) ?step2 ?fin2 ?init2) ?post2)
        case init2=>exact ⟨rfl,ms,hs⟩
        case fin2 =>
          rintro ⟨c1,out,ia,ib,g,ac,bc⟩ st' ⟨e,ms,hs⟩
          refine .inr ⟨e,ms,?_⟩
          dsimp only at *
          omega
        case post2 =>
          rintro ⟨c1,out,ia,ib,g,ac,bc⟩ st' (⟨o,rfl,sm,m⟩ | ⟨rfl,ms,hs⟩)
          · exact wpS_pure ⟨o,rfl,sm,m⟩
          · dsimp only at *
            exact wpS_bind (wpS_setGallop (wpS_pure ⟨rfl,⟨ms.sm.gal _,ms.mi,ms.ha,ms.hb⟩,by dsimp only;omega⟩))
        case step2 =>
          rintro y ⟨c1,out,ia,ib,g,ac,bc⟩ st' _ hy ⟨e3,ms,hs⟩
          dsimp -zeta only at e3 ms hs ⊢
          subst e3
          have hib:=ms.hb
          have hia:=ms.ha
          extract_lets +onlyGivenNames -underBinder s1 n1 s2 n2 s3 n3 s4 n4 s5 n5 n6 jp
          refine wpS_jp1 jp (fun _ g=>?_) fun hj=>by clear_value jp;split<;>exact hj _ _
          dsimp -zeta only [s1,s2,s3,s4,s5,n1,n2,n3,n4,n5,n6,jp]
          clear jp s1 s2 s3 s4 s5 n1 n2 n3 n4 n5 n6
          refine wpS_bind (wpS_setGallop ?_)
          refine wpS_bind (wpS_elem (getElem?_pos b ib hib) ?_)
          refine wpS_bind (wpS_gallop C (ms.sm.kind.trans hk) (sb _ (mem_arr hib)) sa (by omega) (by omega) (pb_mono_r O sa ra (sb _ (mem_arr hib)) (by omega)) fun k1 hk1 ht1 hf1=>?_)
          dsimp -zeta only
          extract_lets +onlyGivenNames -underBinder ac jp
          refine wpS_jp2 jp (fun out ia=>∃ h:ia+1<a.size,MI L a.toList b.toList out.toList ia ib∧L (a[ia]'(by omega)) b[ib]=false∧x+1+y≤out.size) ?_ ?_
          · rintro _ out ia ⟨ha,m1,nx,hs⟩
            dsimp -zeta only [jp]
            clear jp
            refine wpS_bind (wpS_elem (getElem?_pos b ib hib) ?_)
            have m2:=m1.pushB O sa sb ra rb (by omega) hib nx
            extract_lets +onlyGivenNames -underBinder ou n1
            by_cases z3:(ib+1==b.size)=true
            · rw [if_pos z3]
              exact wpS_pure (.inl ⟨_,rfl,ms.sm.gal _,m2.finA ra (by simpa using z3)⟩)
            rw [if_neg z3]
            have z3':ib+1<b.size:=by
              have:ib+1≠b.size:=by simpa using z3
              omega
            refine wpS_bind (wpS_elem (getElem?_pos a ia (by omega)) ?_)
            refine wpS_bind (wpS_gallop C (ms.sm.kind.trans hk) (sa _ (mem_arr (by omega))) sb (by omega) (by omega) (pb_mono_l O sb rb (sa _ (mem_arr (by omega))) (by omega)) fun k2 hk2 ht2 hf2=>?_)
            dsimp -zeta only
            extract_lets +onlyGivenNames -underBinder bc jp
            refine wpS_jp2 jp (fun ou ib=>∃ h:ib<b.size,MI L a.toList b.toList ou.toList ia ib∧L b[ib] (a[ia]'(by omega))=false∧x+2+y≤ou.size) ?_ ?_
            · rintro _ ou ib ⟨hb,m3,nx2,hs⟩
              dsimp -zeta only [jp]
              clear jp
              refine wpS_bind (wpS_elem (getElem?_pos a ia (by omega)) ?_)
              have m4:=m3.pushA O sa sb ra rb (by omega) hb nx2
              dsimp only
              by_cases z5:(ia+1+1==a.size)=true
              · rw [if_pos z5]
                exact wpS_pure (.inl ⟨_,rfl,ms.sm.gal _,m4.finL ra rb (by simpa using z5) hl⟩)
              rw [if_neg z5]
              have z5':ia+1+1<a.size:=by
                have:ia+1+1≠a.size:=by simpa using z5
                omega
              split
              · exact wpS_pure (.inr ⟨rfl,⟨ms.sm.gal _,m4,z5',hb⟩,by simp;omega⟩)
              · exact wpS_pure ⟨rfl,⟨ms.sm.gal _,m4,z5',hb⟩,by simp;omega⟩
            clear_value jp
            intro hj
            by_cases kz:k2 > 0
            · rw [if_pos kz]
              have m3:=m2.extB (k:=k2) O sa sb ra rb (by omega) (by omega) ht2
              dsimp only
              by_cases z4:(ib+1+k2==b.size)=true
              · rw [if_pos z4]
                exact wpS_pure (.inl ⟨_,rfl,ms.sm.gal _,m3.finA ra (by simpa using z4)⟩)
              rw [if_neg z4]
              have:ib+1+k2≠b.size:=by simpa using z4
              have nx2:=hf2 k2 (Nat.le_refl _) (by omega)
              rw [pb_t (by omega)] at nx2
              exact hj _ _ _ ⟨by omega,m3,nx2,by simp [ou];omega⟩
            · rw [if_neg kz]
              have nx2:=hf2 0 (by omega) (by omega)
              rw [pb_t (by omega)] at nx2
              exact hj _ _ _ ⟨by omega,m2,nx2,by simp [ou];omega⟩
          clear_value jp
          intro hj
          by_cases kz:k1 > 0
          · rw [if_pos kz]
            have m1:=ms.mi.extA (k:=k1) O sa sb ra rb hib (by omega) ht1
            dsimp only
            by_cases z1:(ia+k1+1==a.size)=true
            · rw [if_pos z1]
              exact wpS_pure (.inl ⟨_,rfl,ms.sm.gal _,m1.finL ra rb (by simpa using z1) hl⟩)
            rw [if_neg z1]
            by_cases z2:(ia+k1==a.size)=true
            · rw [if_pos z2]
              exact wpS_pure (.inl ⟨_,rfl,ms.sm.gal _,m1.finB rb (by simpa using z2)⟩)
            rw [if_neg z2]
            have:ia+k1+1≠a.size:=by simpa using z1
            have:ia+k1≠a.size:=by simpa using z2
            have nx:=hf1 k1 (Nat.le_refl _) (by omega)
            rw [pb_f (by omega)] at nx
            exact hj _ _ _ ⟨by omega,m1,C.asym _ _ (by simpa using nx),by simp;omega⟩
          · rw [if_neg kz]
            have nx:=hf1 0 (by omega) (by omega)
            rw [pb_f (by omega)] at nx
            exact hj _ _ _ ⟨hia,ms.mi,C.asym _ _ (by simpa using nx),hs⟩
end
end Srt
namespace Srt
open PySem PyProof.Rows
section
variable {S:Keyed→Prop}{L:Keyed→Keyed→Bool}
structure MH (L:Keyed→Keyed→Bool)(al bl ol:List Keyed)(na nb:Nat):Prop where
  perm:ol.Perm (al.drop na++bl.drop nb)
  rise:Rise L ol
  lea:∀ x∈ol,∀ y∈al.take na,L x y=false
  leb:∀ x∈ol,∀ y∈bl.take nb,L x y=false
  ha:na≤al.length
  hb:nb≤bl.length
theorem MH.len {al bl ol:List Keyed}{na nb:Nat}(h:MH L al bl ol na nb):ol.length+na+nb=al.length+bl.length:=by
  rw [h.perm.length_eq,List.length_append,List.length_drop,List.length_drop]
  have:=h.ha
  have:=h.hb
  omega
theorem take_sub {α:Type}{l:List α}{i n:Nat}{y:α}(hi:i≤n)(h:y∈l.take i):y∈l.take n:=by
  have:l.take i=(l.take n).take i:=by rw [List.take_take,Nat.min_eq_left hi]
  rw [this] at h
  exact List.mem_of_mem_take h
theorem drop_eq' {α:Type}(l:List α){i n:Nat}(h:i≤n):l.drop i=(l.take n).drop i++l.drop n:=by
  rw [List.drop_take]
  have:l.drop n=(l.drop i).drop (n-i):=by rw [List.drop_drop];congr 1;omega
  rw [this,List.take_append_drop]
theorem rise_take_piece {l:List Keyed}(h:Rise L l){i n:Nat}(hi:i≤n):∀ x∈(l.take n).drop i,∀ y∈l.take i,L x y=false:=by
  intro x hx y hy
  have h2:Rise L (l.take n):=h.sublist (List.take_sublist _ _)
  rw [← List.take_append_drop i (l.take n)] at h2
  rw [show l.take i=(l.take n).take i by rw [List.take_take,Nat.min_eq_left hi]] at hy
  exact (List.pairwise_append.mp h2).2.2 y hy x hx
theorem MH.takeA {al bl ol:List Keyed}{na nb:Nat}(h:MH L al bl ol na nb)(ra:Rise L al)(i:Nat)(hi:i≤na)(c:∀ y∈(al.take na).drop i,∀ z∈bl.take nb,L y z=false):MH L al bl ((al.take na).drop i++ol) i nb where
  perm:=by
    rw [drop_eq' al hi,List.append_assoc]
    exact List.Perm.append_left _ h.perm
  rise:=List.pairwise_append.mpr ⟨(ra.sublist (List.take_sublist _ _)).sublist (List.drop_sublist _ _),h.rise,fun x hx y hy=>h.lea y hy x (List.mem_of_mem_drop hx)⟩
  lea:=fun x hx y hy=>by
    rcases List.mem_append.mp hx with z | z
    · exact rise_take_piece ra hi x z y hy
    · exact h.lea x z y (take_sub hi hy)
  leb:=fun x hx y hy=>by
    rcases List.mem_append.mp hx with z | z
    · exact c x z y hy
    · exact h.leb x z y hy
  ha:=Nat.le_trans hi h.ha
  hb:=h.hb
theorem MH.takeB {al bl ol:List Keyed}{na nb:Nat}(h:MH L al bl ol na nb)(rb:Rise L bl)(i:Nat)(hi:i≤nb)(c:∀ y∈(bl.take nb).drop i,∀ z∈al.take na,L y z=false):MH L al bl ((bl.take nb).drop i++ol) na i where
  perm:=by
    rw [drop_eq' bl hi]
    refine (List.Perm.append_left _ h.perm).trans ?_
    rw [← List.append_assoc,← List.append_assoc]
    exact List.Perm.append_right _ List.perm_append_comm
  rise:=List.pairwise_append.mpr ⟨(rb.sublist (List.take_sublist _ _)).sublist (List.drop_sublist _ _),h.rise,fun x hx y hy=>h.leb y hy x (List.mem_of_mem_drop hx)⟩
  lea:=fun x hx y hy=>by
    rcases List.mem_append.mp hx with z | z
    · exact c x z y hy
    · exact h.lea x z y hy
  leb:=fun x hx y hy=>by
    rcases List.mem_append.mp hx with z | z
    · exact rise_take_piece rb hi x z y hy
    · exact h.leb x z y (take_sub hi hy)
  ha:=h.ha
  hb:=Nat.le_trans hi h.hb
theorem MH.doneB {al bl ol:List Keyed}{nb:Nat}(h:MH L al bl ol 0 nb)(rb:Rise L bl):Mrg L al bl (bl.take nb++ol):=by
  constructor
  · refine (List.Perm.append_left _ h.perm).trans ?_
    rw [List.drop_zero]
    refine (List.Perm.append_left _ List.perm_append_comm).trans ?_
    rw [← List.append_assoc,List.take_append_drop]
    exact List.perm_append_comm
  · exact List.pairwise_append.mpr ⟨rb.sublist (List.take_sublist _ _),h.rise,fun x hx y hy=>h.leb y hy x hx⟩
theorem MH.doneA {al bl ol:List Keyed}{na:Nat}(h:MH L al bl ol na 0)(ra:Rise L al):Mrg L al bl (al.take na++ol):=by
  constructor
  · refine (List.Perm.append_left _ h.perm).trans ?_
    rw [List.drop_zero,← List.append_assoc,List.take_append_drop]
  · exact List.pairwise_append.mpr ⟨ra.sublist (List.take_sublist _ _),h.rise,fun x hx y hy=>h.lea y hy x hx⟩
theorem MH.firstB {al bl ol:List Keyed}{na nb:Nat}(h:MH L al bl ol na nb)(ra:Rise L al)(rb:Rise L bl)(c:∀ y∈bl.take nb,∀ z∈al.take na,L z y=false):Mrg L al bl (bl.take nb++al.take na++ol):=by
  constructor
  · refine (List.Perm.append_left _ h.perm).trans ?_
    have e:bl.take nb++al.take na++(al.drop na++bl.drop nb)=bl.take nb++(al++bl.drop nb):=by
      rw [List.append_assoc,← List.append_assoc (al.take na),List.take_append_drop]
    rw [e]
    refine (List.Perm.append_left _ List.perm_append_comm).trans ?_
    rw [← List.append_assoc,List.take_append_drop]
    exact List.perm_append_comm
  · refine List.pairwise_append.mpr ⟨List.pairwise_append.mpr ⟨rb.sublist (List.take_sublist _ _),ra.sublist (List.take_sublist _ _),c⟩,h.rise,fun x hx y hy=>?_⟩
    rcases List.mem_append.mp hx with z | z
    · exact h.leb y hy x z
    · exact h.lea y hy x z
variable {a b out:Array Keyed}{na nb k:Nat}
theorem take_get {a:Array Keyed}{i:Nat}(h:i<a.size):(a.toList.take (i+1)).drop i=[a[i]]:=by
  rw [List.drop_take,drop_get h,show i+1-i=1 by omega]
  rfl
theorem mem_take' {a:Array Keyed}{n:Nat}{x:Keyed}(h:x∈a.toList.take n):∃ j,j<n∧∃ q:j<a.size,x=a[j]:=by
  have:=mem_take_drop (a:=a) (i:=0) (k:=n) (x:=x) (by simpa using h)
  obtain ⟨j,hj,q,e⟩:=this
  exact ⟨j,hj,by omega,by simpa using e⟩
theorem get_le {a:Array Keyed}(ra:Rise L a.toList)(O:Ord S L){i j:Nat}(hij:i≤j)(hj:j<a.size)(ir:L a[j] a[j]=false):L a[j] (a[i]'(by omega))=false:=by
  rcases Nat.lt_or_ge i j with q | q
  · exact head_le ra (i:=i) (by omega) a[j] (List.mem_iff_getElem.mpr ⟨j-i-1,by simp;omega,by simp;congr 1;omega⟩)
  · have:i=j:=by omega
    subst this
    exact ir
theorem Ord.irr (O:Ord S L)(x:Keyed):L x x=false:=by
  cases e:L x x with
  | false=>rfl
  | true=>rw [O.asym x x e] at e;cases e
theorem all_ge (O:Ord S L)(sa:∀ x∈a.toList,S x)(ra:Rise L a.toList){n:Nat}(hn:n<a.size){y:Keyed}(sy:S y)(c:L y a[n]=false):∀ z∈a.toList.take (n+1),L y z=false:=by
  intro z hz
  obtain ⟨j,hj,q,rfl⟩:=mem_take' hz
  exact O.step (sa _ (mem_arr q)) (sa _ (mem_arr hn)) sy c (get_le ra O (by omega) hn (O.irr _))
theorem rev_push (out:Array Keyed)(x:Keyed):(out.push x).reverse.toList=x::out.reverse.toList:=by simp
theorem rev_app (out p:Array Keyed):(out++p.reverse).reverse.toList=p.toList++out.reverse.toList:=by simp
theorem MH.pushA (O:Ord S L)(m:MH L a.toList b.toList out.reverse.toList (na+1) (nb+1))(sa:∀ x∈a.toList,S x)(sb:∀ x∈b.toList,S x)(ra:Rise L a.toList)(rb:Rise L b.toList)(hna:na<a.size)(hnb:nb<b.size)(c:L a[na] b[nb]=false) :
    MH L a.toList b.toList (out.push a[na]).reverse.toList na (nb+1):=by
  have e:=take_get hna
  have:=m.takeA ra na (Nat.le_succ _) (by
    rw [e]
    intro y hy z hz
    have hy:y=a[na]:=by simpa using hy
    subst hy
    exact all_ge O sb rb hnb (sa _ (mem_arr hna)) c z hz)
  rw [e] at this
  rw [rev_push]
  exact this
theorem MH.pushB (O:Ord S L)(m:MH L a.toList b.toList out.reverse.toList (na+1) (nb+1))(sa:∀ x∈a.toList,S x)(sb:∀ x∈b.toList,S x)(ra:Rise L a.toList)(rb:Rise L b.toList)(hna:na<a.size)(hnb:nb<b.size)(c:L b[nb] a[na]=false) :
    MH L a.toList b.toList (out.push b[nb]).reverse.toList (na+1) nb:=by
  have e:=take_get hnb
  have:=m.takeB rb nb (Nat.le_succ _) (by
    rw [e]
    intro y hy z hz
    have hy:y=b[nb]:=by simpa using hy
    subst hy
    exact all_ge O sa ra hna (sb _ (mem_arr hnb)) c z hz)
  rw [e] at this
  rw [rev_push]
  exact this
theorem ext_piece (a:Array Keyed){i n:Nat}(h:i≤n):(a.extract i n).toList=(a.toList.take n).drop i:=by
  simp only [Array.toList_extract,List.extract_eq_take_drop,List.drop_take]
theorem mem_piece {a:Array Keyed}{i n:Nat}{x:Keyed}(h:x∈(a.toList.take n).drop i):∃ j,i≤j∧j<n∧∃ q:j<a.size,x=a[j]:=by
  rw [List.drop_take] at h
  obtain ⟨j,hj,q,e⟩:=mem_take_drop h
  exact ⟨i+j,by omega,by omega,q,e⟩
theorem MH.extA (O:Ord S L)(m:MH L a.toList b.toList out.reverse.toList na (nb+1))(sa:∀ x∈a.toList,S x)(sb:∀ x∈b.toList,S x)(ra:Rise L a.toList)(rb:Rise L b.toList)(hnb:nb<b.size)(hk:k≤na)(c:∀ i,k≤i→i<na→pb L false b[nb] a 0 i=false) :
    MH L a.toList b.toList (out++(a.extract k na).reverse).reverse.toList k (nb+1):=by
  rw [rev_app,ext_piece a hk]
  refine m.takeA ra k hk fun y hy z hz=>?_
  obtain ⟨j,hj,hj2,q,rfl⟩:=mem_piece hy
  have:=c j hj hj2
  rw [pb_f (by omega)] at this
  have this:L b[nb] a[j]=true:=by simpa using this
  exact all_ge O sb rb hnb (sa _ (mem_arr q)) (O.asym _ _ this) z hz
theorem MH.extB (O:Ord S L)(m:MH L a.toList b.toList out.reverse.toList (na+1) nb)(sa:∀ x∈a.toList,S x)(sb:∀ x∈b.toList,S x)(ra:Rise L a.toList)(rb:Rise L b.toList)(hna:na<a.size)(hk:k≤nb)(c:∀ i,k≤i→i<nb→pb L true a[na] b 0 i=false) :
    MH L a.toList b.toList (out++(b.extract k nb).reverse).reverse.toList (na+1) k:=by
  rw [rev_app,ext_piece b hk]
  refine m.takeB rb k hk fun y hy z hz=>?_
  obtain ⟨j,hj,hj2,q,rfl⟩:=mem_piece hy
  have:=c j hj hj2
  rw [pb_t (by omega)] at this
  have this:L b[j] a[na]=false:=by simpa using this
  exact all_ge O sa ra hna (sb _ (mem_arr q)) this z hz
theorem ext0 (a:Array Keyed)(n:Nat):(a.extract 0 n).toList=a.toList.take n:=by rw [ext_piece a (Nat.zero_le n),List.drop_zero]
theorem MH.fin0 (m:MH L a.toList b.toList out.reverse.toList na nb)(rb:Rise L b.toList)(e:na=0):Mrg L a.toList b.toList (a.extract 0 na++b.extract 0 nb++out.reverse).toList:=by
  subst e
  rw [Array.toList_append,Array.toList_append,ext0,ext0,List.take_zero,List.nil_append]
  exact m.doneB rb
theorem MH.fin0b (m:MH L a.toList b.toList out.reverse.toList na nb)(ra:Rise L a.toList)(e:nb=0):Mrg L a.toList b.toList (a.extract 0 na++b.extract 0 nb++out.reverse).toList:=by
  subst e
  rw [Array.toList_append,Array.toList_append,ext0,ext0,List.take_zero,List.append_nil]
  exact m.doneA ra
theorem MH.fin1 (m:MH L a.toList b.toList out.reverse.toList na nb)(ra:Rise L a.toList)(rb:Rise L b.toList)(e:nb=1)(h0:∀ z∈a.toList,∀ y∈b.toList.take 1,L z y=false):Mrg L a.toList b.toList (b.extract 0 nb++a.extract 0 na++out.reverse).toList:=by
  subst e
  rw [Array.toList_append,Array.toList_append,ext0,ext0]
  exact m.firstB ra rb fun y hy z hz=>h0 z (List.mem_of_mem_take hz) y hy
theorem MH.size (m:MH L a.toList b.toList out.reverse.toList na nb):out.size+na+nb=a.size+b.size:=by
  have:=m.len
  simpa using this
end
def mergeHi':Array Keyed→Array Keyed→StateT SortSt Sem (Array Keyed):=sortPriv% PySem.Builtin.mergeHi
section
variable {M:Model}{A:Around}{E:Value→Shared→Prop}{s:Shared}{kd:SortKind}{S:Keyed→Prop}{L:Keyed→Keyed→Bool}
structure MHS (L:Keyed→Keyed→Bool)(st:SortSt)(a b out:Array Keyed)(na nb:Nat)(st':SortSt):Prop where
  sm:Sm st st'
  mi:MH L a.toList b.toList out.reverse.toList na nb
  ha:0<na
  hb:1<nb
theorem pb0_f {a:Array Keyed}{i:Nat}{key:Keyed}(q:i<a.size):pb L false key a 0 i=!L key a[i]:=by
  unfold pb
  rw [Nat.zero_add,getElem?_pos a i q]
  rfl
theorem pb0_t {a:Array Keyed}{i:Nat}{key:Keyed}(q:i<a.size):pb L true key a 0 i=L a[i] key:=by
  unfold pb
  rw [Nat.zero_add,getElem?_pos a i q]
  rfl
variable {a b out:Array Keyed}{na nb k:Nat}
theorem MH.hA (m:MH L a.toList b.toList out.reverse.toList na nb):na≤a.size:=by simpa using m.ha
theorem MH.hB (m:MH L a.toList b.toList out.reverse.toList na nb):nb≤b.size:=by simpa using m.hb
theorem MH.putA (O:Ord S L)(m:MH L a.toList b.toList out.reverse.toList na nb)(sa:∀ x∈a.toList,S x)(sb:∀ x∈b.toList,S x)(ra:Rise L a.toList)(rb:Rise L b.toList)(hna:0<na)(hnb:0<nb)(qa:na-1<a.size)(qb:nb-1<b.size)(c:L a[na-1] b[nb-1]=false) :
    MH L a.toList b.toList (out.push a[na-1]).reverse.toList (na-1) nb:=by
  obtain ⟨i,rfl⟩:∃ i,na=i+1:=⟨na-1,by omega⟩
  obtain ⟨j,rfl⟩:∃ j,nb=j+1:=⟨nb-1,by omega⟩
  exact m.pushA O sa sb ra rb qa qb c
theorem MH.putB (O:Ord S L)(m:MH L a.toList b.toList out.reverse.toList na nb)(sa:∀ x∈a.toList,S x)(sb:∀ x∈b.toList,S x)(ra:Rise L a.toList)(rb:Rise L b.toList)(hna:0<na)(hnb:0<nb)(qa:na-1<a.size)(qb:nb-1<b.size)(c:L b[nb-1] a[na-1]=false) :
    MH L a.toList b.toList (out.push b[nb-1]).reverse.toList na (nb-1):=by
  obtain ⟨i,rfl⟩:∃ i,na=i+1:=⟨na-1,by omega⟩
  obtain ⟨j,rfl⟩:∃ j,nb=j+1:=⟨nb-1,by omega⟩
  exact m.pushB O sa sb ra rb qa qb c
theorem MH.putAs (O:Ord S L)(m:MH L a.toList b.toList out.reverse.toList na nb)(sa:∀ x∈a.toList,S x)(sb:∀ x∈b.toList,S x)(ra:Rise L a.toList)(rb:Rise L b.toList)(hnb:0<nb)(qb:nb-1<b.size)(hk:k≤na)(c:∀ i,k≤i→i<na→pb L false b[nb-1] a 0 i=false) :
    MH L a.toList b.toList (out++(a.extract k na).reverse).reverse.toList k nb:=by
  obtain ⟨j,rfl⟩:∃ j,nb=j+1:=⟨nb-1,by omega⟩
  exact m.extA O sa sb ra rb qb hk c
theorem MH.putBs (O:Ord S L)(m:MH L a.toList b.toList out.reverse.toList na nb)(sa:∀ x∈a.toList,S x)(sb:∀ x∈b.toList,S x)(ra:Rise L a.toList)(rb:Rise L b.toList)(hna:0<na)(qa:na-1<a.size)(hk:k≤nb)(c:∀ i,k≤i→i<nb→pb L true a[na-1] b 0 i=false) :
    MH L a.toList b.toList (out++(b.extract k nb).reverse).reverse.toList na k:=by
  obtain ⟨j,rfl⟩:∃ j,na=j+1:=⟨na-1,by omega⟩
  exact m.extB O sa sb ra rb qa hk c
theorem wpS_mergeHi (C:Cmp M A E s kd S L) {a b:Array Keyed} {st:SortSt} {Q:Array Keyed→SortSt→Prop} (hk:kindOf st=kd) (sa:∀ x∈a.toList,S x) (sb:∀ x∈b.toList,S x) (ra:Rise L a.toList) (rb:Rise L b.toList) (na:0<a.size) (nb:0<b.size)
    (h0:∀ z∈a.toList,∀ y∈b.toList.take 1,L z y=false) (hl:∀ y∈b.toList,L (a[a.size-1]'(by omega)) y=false)
    (h:∀ o st',Sm st st'→Mrg L a.toList b.toList o.toList→Q o st'):wpS M A E s (mergeHi' a b) Q st:=by
  have O:=C.ord
  unfold mergeHi'
  k_delta "mergeHi"
  refine wpS_bind (wpS_lift (wpAny_rule ⟨rfl,?_⟩))
  refine wpS_bind (wpS_elem (getElem?_pos a (a.size-1) (by omega)) ?_)
  dsimp -zeta only
  have nil:MH L a.toList b.toList (#[]:Array Keyed).reverse.toList a.size b.size:=⟨by simp,.nil,fun _ z=>by simp at z,fun _ z=>by simp at z,by simp,by simp⟩
  have ini:MH L a.toList b.toList (#[a[a.size-1]'(by omega)]:Array Keyed).reverse.toList (a.size-1) b.size:=nil.putA O sa sb ra rb na nb (by omega) (by omega) (hl _ (mem_arr (by omega)))
  by_cases e1:(a.size-1==0)=true
  · rw [if_pos e1]
    exact wpS_pure (h _ _ (Sm.refl _) (ini.fin0 rb (by simpa using e1)))
  rw [if_neg e1]
  by_cases e2:(b.size==1)=true
  · rw [if_pos e2]
    exact wpS_pure (h _ _ (Sm.refl _) (ini.fin1 ra rb (by simpa using e2) h0))
  rw [if_neg e2]
  have e1':0<a.size-1:=by
    have:a.size-1≠0:=by simpa using e1
    omega
  have e2':1<b.size:=by
    have:b.size≠1:=by simpa using e2
    omega
  refine wpS_bind (wpS_get ?_)
  skip
  refine wpS_bind (wpS_mono (wpS_forRange (I:=fun x c st'=>c.1=none∧MHS L st a b c.2.2.2.1 c.2.1 c.2.2.1 st'∧x+1≤c.2.2.2.1.size) (Q:=fun c st'=>∃ o,c.1=some o∧Sm st st'∧Mrg L a.toList b.toList o.toList) ?step ?fin ?init) ?post)
  case init=>exact ⟨rfl,⟨Sm.refl _,ini,e1',e2'⟩,by simp⟩
  case fin =>
    rintro ⟨c1,na,nb,out,g⟩ st' ⟨_,ms,hs⟩
    dsimp only at *
    have:=ms.mi.size
    have:=ms.ha
    have:=ms.hb
    omega
  case post =>
    rintro ⟨c1,na,nb,out,g⟩ st' ⟨o,rfl,sm,m⟩
    exact wpS_pure (h _ _ sm m)
  case step =>
    rintro x ⟨c1,na,nb,out,g⟩ st' _ hx ⟨rfl,ms,hs⟩
    dsimp -zeta only at *
    refine wpS_bind (wpS_mono (wpS_forRange (I:=fun _ c st'=>c.1=none∧MHS L st a b c.2.2.2.1 c.2.1 c.2.2.1 st'∧x+1≤c.2.2.2.1.size)
      (Q:=fun c st'=>(∃ o,c.1=some o∧Sm st st'∧Mrg L a.toList b.toList o.toList)∨(c.1=none∧MHS L st a b c.2.2.2.1 c.2.1 c.2.2.1 st'∧x+1≤c.2.2.2.1.size)) ?step1 (fun _ _ z=>.inr z) ?init1) ?post1)
    case init1=>exact ⟨rfl,ms,hs⟩
    case step1 =>
      rintro y ⟨c1,na,nb,out,ac,bc⟩ st' _ hy ⟨rfl,ms,hs⟩
      dsimp only at *
      have hA:=ms.mi.hA
      have hB:=ms.mi.hB
      have ha:=ms.ha
      have hb:=ms.hb
      refine wpS_bind (wpS_elem (getElem?_pos b (nb-1) (by omega)) ?_)
      refine wpS_bind (wpS_elem (getElem?_pos a (na-1) (by omega)) ?_)
      refine wpS_bind (C.lt _ _ _ _ (sb _ (mem_arr (by omega))) (sa _ (mem_arr (by omega))) (ms.sm.kind.trans hk) ?_)
      dsimp only
      cases e:L (b[nb-1]'(by omega)) (a[na-1]'(by omega)) with
      | true =>
        rw [if_pos rfl]
        refine wpS_bind (wpS_elem (getElem?_pos a (na-1) (by omega)) ?_)
        have m2:=ms.mi.putA O sa sb ra rb (by omega) (by omega) (by omega) (by omega) (C.asym _ _ e)
        by_cases z:(na-1==0)=true
        · rw [if_pos z]
          exact wpS_pure (.inl ⟨_,rfl,ms.sm,m2.fin0 rb (by simpa using z)⟩)
        · rw [if_neg z]
          have z':0<na-1:=by
            have:na-1≠0:=by simpa using z
            omega
          split
          · exact wpS_pure (.inr ⟨rfl,⟨ms.sm,m2,z',hb⟩,by simp;omega⟩)
          · exact wpS_pure ⟨rfl,⟨ms.sm,m2,z',hb⟩,by simp;omega⟩
      | false =>
        rw [if_neg (by decide)]
        refine wpS_bind (wpS_elem (getElem?_pos b (nb-1) (by omega)) ?_)
        have m2:=ms.mi.putB O sa sb ra rb (by omega) (by omega) (by omega) (by omega) e
        by_cases z:(nb-1==1)=true
        · rw [if_pos z]
          exact wpS_pure (.inl ⟨_,rfl,ms.sm,m2.fin1 ra rb (by simpa using z) h0⟩)
        · rw [if_neg z]
          have z':1<nb-1:=by
            have:nb-1≠1:=by simpa using z
            omega
          split
          · exact wpS_pure (.inr ⟨rfl,⟨ms.sm,m2,ha,z'⟩,by simp;omega⟩)
          · exact wpS_pure ⟨rfl,⟨ms.sm,m2,ha,z'⟩,by simp;omega⟩
    case post1 =>
      rintro ⟨c1,na,nb,out,ac,bc⟩ st' (⟨o,rfl,sm,m⟩ | ⟨rfl,ms,hs⟩)
      · exact wpS_pure ⟨o,rfl,sm,m⟩
      · iterate 10 skip
        dsimp (config:={ zeta:=false }) only at *
        refine wpS_bind (wpS_lift (wpAny_rule ⟨rfl,?_⟩))
        skip
        refine wpS_bind (wpS_mono (wpS_forRange (I:=fun y c st'=>c.1=none∧MHS L st a b c.2.2.2.1 c.2.1 c.2.2.1 st'∧x+1+y≤c.2.2.2.1.size)
          (Q:=fun c st'=>(∃ o,c.1=some o∧Sm st st'∧Mrg L a.toList b.toList o.toList)∨(c.1=none∧MHS L st a b c.2.2.2.1 c.2.1 c.2.2.1 st'∧x+2≤c.2.2.2.1.size)) ?step2 ?fin2 ?init2) ?post2)
        case init2=>exact ⟨rfl,ms,hs⟩
        case fin2 =>
          rintro ⟨c1,na,nb,out,g,ac,bc⟩ st' ⟨e,ms,hs⟩
          refine .inr ⟨e,ms,?_⟩
          dsimp only at *
          omega
        case post2 =>
          rintro ⟨c1,na,nb,out,g,ac,bc⟩ st' (⟨o,rfl,sm,m⟩ | ⟨rfl,ms,hs⟩)
          · exact wpS_pure ⟨o,rfl,sm,m⟩
          · dsimp only at *
            exact wpS_bind (wpS_setGallop (wpS_pure ⟨rfl,⟨ms.sm.gal _,ms.mi,ms.ha,ms.hb⟩,by dsimp only;omega⟩))
        case step2 =>
          rintro y ⟨c1,na,nb,out,g,ac,bc⟩ st' _ hy ⟨e3,ms,hs⟩
          dsimp -zeta only at e3 ms hs ⊢
          subst e3
          have hA:=ms.mi.hA
          have hB:=ms.mi.hB
          have ha:=ms.ha
          have hb:=ms.hb
          have mz:=ms.mi.size
          extract_lets +onlyGivenNames -underBinder s1 n1 s2 n2 s3 n3 s4 n4 s5 n5 n6 jp
          refine wpS_jp1 jp (fun _ g=>?_) fun hj=>by clear_value jp;split<;>exact hj _ _
          dsimp -zeta only [s1,s2,s3,s4,s5,n1,n2,n3,n4,n5,n6,jp]
          clear jp s1 s2 s3 s4 s5 n1 n2 n3 n4 n5 n6
          refine wpS_bind (wpS_setGallop ?_)
          refine wpS_bind (wpS_elem (getElem?_pos b (nb-1) (by omega)) ?_)
          refine wpS_bind (wpS_gallop C (ms.sm.kind.trans hk) (sb _ (mem_arr (by omega))) sa (by omega) (by omega) (pb_mono_r O sa ra (sb _ (mem_arr (by omega))) (by omega)) fun k1 hk1 ht1 hf1=>?_)
          dsimp -zeta only
          extract_lets +onlyGivenNames -underBinder k ac jp
          refine wpS_jp2 jp (fun na out=>∃ _:0<na∧na≤a.size,MH L a.toList b.toList out.reverse.toList na nb∧L (b[nb-1]'(by omega)) (a[na-1]'(by omega))=false∧x+1+y≤out.size) ?_ ?_
          · rintro _ na out ⟨_,m1,nx,hs⟩
            dsimp -zeta only [jp]
            clear jp
            refine wpS_bind (wpS_elem (getElem?_pos b (nb-1) (by omega)) ?_)
            have m2:=m1.putB O sa sb ra rb (by omega) (by omega) (by omega) (by omega) nx
            extract_lets +onlyGivenNames -underBinder ou
            by_cases z3:(nb-1==1)=true
            · rw [if_pos z3]
              exact wpS_pure (.inl ⟨_,rfl,ms.sm.gal _,m2.fin1 ra rb (by simpa using z3) h0⟩)
            rw [if_neg z3]
            have z3':1<nb-1:=by
              have:nb-1≠1:=by simpa using z3
              omega
            refine wpS_bind (wpS_elem (getElem?_pos a (na-1) (by omega)) ?_)
            refine wpS_bind (wpS_gallop C (ms.sm.kind.trans hk) (sa _ (mem_arr (by omega))) sb (by omega) (by omega) (pb_mono_l O sb rb (sa _ (mem_arr (by omega))) (by omega)) fun k2 hk2 ht2 hf2=>?_)
            dsimp -zeta only
            extract_lets +onlyGivenNames -underBinder k bc jp
            refine wpS_jp2 jp (fun nb ou=>∃ _:1<nb∧nb≤b.size,MH L a.toList b.toList ou.reverse.toList na nb∧L (a[na-1]'(by omega)) (b[nb-1]'(by omega))=false∧x+2+y≤ou.size) ?_ ?_
            · rintro _ nb ou ⟨⟨h1,_⟩,m3,nx2,hs⟩
              dsimp -zeta only [jp]
              clear jp
              refine wpS_bind (wpS_elem (getElem?_pos a (na-1) (by omega)) ?_)
              have m4:=m3.putA O sa sb ra rb (by omega) (by omega) (by omega) (by omega) nx2
              dsimp only
              by_cases z5:(na-1==0)=true
              · rw [if_pos z5]
                exact wpS_pure (.inl ⟨_,rfl,ms.sm.gal _,m4.fin0 rb (by simpa using z5)⟩)
              rw [if_neg z5]
              have z5':0<na-1:=by
                have:na-1≠0:=by simpa using z5
                omega
              split
              · exact wpS_pure (.inr ⟨rfl,⟨ms.sm.gal _,m4,z5',h1⟩,by simp;omega⟩)
              · exact wpS_pure ⟨rfl,⟨ms.sm.gal _,m4,z5',h1⟩,by simp;omega⟩
            clear_value jp
            intro hj
            have nx2:∀ n,(hn:0<n)→n≤k2→(hb:n≤b.size)→L (a[na-1]'(by omega)) (b[n-1]'(by omega))=false:=fun n hn hk hb=>by
              have:=ht2 (n-1) (by omega)
              rw [pb0_t (by omega)] at this
              exact C.asym _ _ this
            by_cases kz:k > 0
            · rw [if_pos kz]
              have m3:=m2.putBs (k:=k2) O sa sb ra rb (by omega) (by omega) hk2 hf2
              dsimp only
              by_cases z4:(k2==1)=true
              · rw [if_pos z4]
                exact wpS_pure (.inl ⟨_,rfl,ms.sm.gal _,m3.fin1 ra rb (by simpa using z4) h0⟩)
              rw [if_neg z4]
              by_cases z6:(k2==0)=true
              · rw [if_pos z6]
                exact wpS_pure (.inl ⟨_,rfl,ms.sm.gal _,m3.fin0b ra (by simpa using z6)⟩)
              rw [if_neg z6]
              have:k2≠1:=by simpa using z4
              have:k2≠0:=by simpa using z6
              exact hj _ _ _ ⟨⟨by omega,by omega⟩,m3,nx2 _ (by omega) (by omega) (by omega),by simp [ou];omega⟩
            · rw [if_neg kz]
              exact hj _ _ _ ⟨⟨by omega,by omega⟩,m2,nx2 _ (by omega) (by omega) (by omega),by simp [ou];omega⟩
          clear_value jp
          intro hj
          have nx:∀ n,(hn:0<n)→n≤k1→(hb:n≤a.size)→L (b[nb-1]'(by omega)) (a[n-1]'(by omega))=false:=fun n hn hk hb=>by
            have:=ht1 (n-1) (by omega)
            rw [pb0_f (by omega)] at this
            simpa using this
          by_cases kz:k > 0
          · rw [if_pos kz]
            have m1:=ms.mi.putAs (k:=k1) O sa sb ra rb (by omega) (by omega) hk1 hf1
            dsimp only
            by_cases z1:(k1==0)=true
            · rw [if_pos z1]
              exact wpS_pure (.inl ⟨_,rfl,ms.sm.gal _,m1.fin0 rb (by simpa using z1)⟩)
            rw [if_neg z1]
            have:k1≠0:=by simpa using z1
            exact hj _ _ _ ⟨⟨by omega,by omega⟩,m1,nx _ (by omega) (by omega) (by omega),by simp;omega⟩
          · rw [if_neg kz]
            exact hj _ _ _ ⟨⟨by omega,by omega⟩,ms.mi,nx _ (by omega) (by omega) (by omega),hs⟩
end
end Srt
namespace Srt
open PySem PyProof.Rows
section
variable {S:Keyed→Prop}{L:Keyed→Keyed→Bool}
theorem seg_get {arr:Array Keyed}{pre A rest:List Keyed}(e:arr.toList=pre++(A++rest)){i:Nat}(hi:i<A.length):arr[pre.length+i]?=some A[i]:=by
  rw [← Array.getElem?_toList,e,List.getElem?_append_right (by omega),show pre.length+i-pre.length=i by omega,List.getElem?_append_left hi]
  exact List.getElem?_eq_getElem hi
theorem seg_f {arr:Array Keyed}{pre A rest:List Keyed}(e:arr.toList=pre++(A++rest)){key:Keyed}{i:Nat}(hi:i<A.length):pb L false key arr pre.length i=!L key A[i]:=by
  unfold pb
  rw [seg_get e hi]
  rfl
theorem seg_t {arr:Array Keyed}{pre A rest:List Keyed}(e:arr.toList=pre++(A++rest)){key:Keyed}{i:Nat}(hi:i<A.length):pb L true key arr pre.length i=L A[i] key:=by
  unfold pb
  rw [seg_get e hi]
  rfl
theorem rise_get {A:List Keyed}(r:Rise L A){i j:Nat}(hij:i<j)(hj:j<A.length):L A[j] (A[i]'(by omega))=false:=List.pairwise_iff_getElem.mp r i j (by omega) hj hij
theorem seg_mono_f (O:Ord S L){arr:Array Keyed}{pre A rest:List Keyed}(e:arr.toList=pre++(A++rest))(r:Rise L A)(sA:∀ x∈A,S x){key:Keyed}(sk:S key) :
    ∀ i j,i≤j→j<A.length→pb L false key arr pre.length j=true→pb L false key arr pre.length i=true:=by
  intro i j hij hj h
  rw [seg_f e hj] at h
  rw [seg_f e (by omega)]
  rcases Nat.lt_or_ge i j with q | q
  · have h:L key A[j]=false:=by simpa using h
    have:=O.step (sA _ (List.getElem_mem (by omega))) (sA _ (List.getElem_mem hj)) sk h (rise_get r q hj)
    simpa using this
  · have:i=j:=by omega
    subst this
    exact h
theorem seg_mono_t (O:Ord S L){arr:Array Keyed}{pre A rest:List Keyed}(e:arr.toList=pre++(A++rest))(r:Rise L A)(sA:∀ x∈A,S x){key:Keyed}(sk:S key) :
    ∀ i j,i≤j→j<A.length→pb L true key arr pre.length j=true→pb L true key arr pre.length i=true:=by
  intro i j hij hj h
  rw [seg_t e hj] at h
  rw [seg_t e (by omega)]
  rcases Nat.lt_or_ge i j with q | q
  · rcases O.neg _ (A[i]'(by omega)) _ (sA _ (List.getElem_mem hj)) (sA _ (List.getElem_mem (by omega))) sk h with z | z
    · rw [rise_get r q hj] at z
      cases z
    · exact z
  · have:i=j:=by omega
    subst this
    exact h
theorem mem_take_ix {A:List Keyed}{k:Nat}{x:Keyed}(h:x∈A.take k):∃ i,i<k∧∃ q:i<A.length,x=A[i]:=by
  obtain ⟨j,hj,e⟩:=List.mem_iff_getElem.mp h
  rw [List.length_take] at hj
  exact ⟨j,by omega,by omega,by rw [← e];simp⟩
theorem mem_drop_ix {A:List Keyed}{k:Nat}{x:Keyed}(h:x∈A.drop k):∃ i,k≤i∧∃ q:i<A.length,x=A[i]:=by
  obtain ⟨j,hj,e⟩:=List.mem_iff_getElem.mp h
  rw [List.length_drop] at hj
  exact ⟨k+j,by omega,by omega,by rw [← e];simp⟩
theorem wr_list:∀ (l:List Keyed) (n:Nat) (sa:Nat) (arr:Array Keyed),sa+n+l.length≤arr.size →
    ((l.zipIdx n).foldl (fun (a:Array Keyed) (q:Keyed × Nat)=>a.setIfInBounds (sa+q.2) q.1) arr).toList=arr.toList.take (sa+n)++l++arr.toList.drop (sa+n+l.length)
  | [],n,sa,arr,h=>by simp
  | x :: l,n,sa,arr,h=>by
    rw [List.zipIdx_cons,List.foldl_cons]
    have h':sa+(n+1)+l.length≤(arr.setIfInBounds (sa+n) x).size:=by
      rw [Array.size_setIfInBounds]
      simp only [List.length_cons] at h
      omega
    rw [wr_list l (n+1) sa _ h']
    have hlt:sa+n<arr.toList.length:=by simp only [List.length_cons] at h;simp;omega
    rw [Array.toList_setIfInBounds,List.take_set,List.drop_set]
    rw [if_pos (by omega)]
    have e1:(arr.toList.take (sa+(n+1))).set (sa+n) x=arr.toList.take (sa+n)++[x]:=by
      rw [show sa+(n+1)=sa+n+1 by omega,List.take_succ,List.getElem?_eq_getElem hlt]
      have hl:(arr.toList.take (sa+n)).length=sa+n:=by rw [List.length_take];omega
      rw [List.set_append_right _ _ (by omega),hl,Nat.sub_self]
      rfl
    rw [e1]
    simp only [List.length_cons,List.append_assoc,List.cons_append,List.nil_append]
    rw [show sa+(n+1)+l.length=sa+n+(l.length+1) by omega]
theorem merge_rise (O:Ord S L) {A B M:List Keyed} {k n:Nat} {b0 al:Keyed} (rA:Rise L A) (rB:Rise L B) (sA:∀ x∈A,S x) (sB:∀ x∈B,S x) (sb0:S b0) (sal:S al) (hb0:∀ y∈B,L y b0=false) (hal:∀ x∈A,L al x=false)
    (f1:∀ x∈A.take k,L b0 x=false) (f2:∀ y∈B.drop n,L y al=false) (pM:M.Perm (A.drop k++B.take n)) (rM:Rise L M):Rise L (A.take k++M++B.drop n)∧(A.take k++M++B.drop n).Perm (A++B):=by
  have bp:∀ x∈A.take k,∀ y∈B,L y x=false:=fun x hx y hy=>O.step (sA _ (List.mem_of_mem_take hx)) sb0 (sB _ hy) (hb0 y hy) (f1 x hx)
  have qa:∀ x∈A,∀ y∈B.drop n,L y x=false:=fun x hx y hy=>O.step (sA _ hx) sal (sB _ (List.mem_of_mem_drop hy)) (f2 y hy) (hal x hx)
  constructor
  · refine List.pairwise_append.mpr ⟨List.pairwise_append.mpr ⟨rA.sublist (List.take_sublist _ _),rM,fun x hx y hy=>?_⟩,rB.sublist (List.drop_sublist _ _),fun x hx y hy=>?_⟩
    · rcases List.mem_append.mp (pM.mem_iff.mp hy) with z | z
      · have r:=rA
        rw [← List.take_append_drop k A] at r
        exact (List.pairwise_append.mp r).2.2 x hx y z
      · exact bp x hx y (List.mem_of_mem_take z)
    · rcases List.mem_append.mp hx with w | w
      · exact qa x (List.mem_of_mem_take w) y hy
      · rcases List.mem_append.mp (pM.mem_iff.mp w) with z | z
        · exact qa x (List.mem_of_mem_drop z) y hy
        · have r:=rB
          rw [← List.take_append_drop n B] at r
          exact (List.pairwise_append.mp r).2.2 x z y hy
  · refine ((List.Perm.append_left _ pM).append_right _).trans ?_
    rw [← List.append_assoc,List.take_append_drop,List.append_assoc,List.take_append_drop]
end
structure Two (L:Keyed→Keyed→Bool)(st:SortSt)(i:Nat)(pre A B post:List Keyed):Prop where
  arr:(arrOf st).toList=pre++(A++(B++post))
  pa:∃ pw,(pendingOf st)[i]?=some (pre.length,A.length,pw)
  pb:∃ pw,(pendingOf st)[i+1]?=some (pre.length+A.length,B.length,pw)
  rA:Rise L A
  rB:Rise L B
  nA:0<A.length
  nB:0<B.length
section
variable {M:Model}{Ar:Around}{E:Value→Shared→Prop}{s:Shared}{kd:SortKind}{S:Keyed→Prop}{L:Keyed→Keyed→Bool}
theorem wpS_set {σ:Type}{x:σ}{Q:PUnit→σ→Prop}{st:σ}(h:Q ⟨⟩ x):wpS M Ar E s (set x:StateT σ Sem PUnit) Q st:=by
  unfold wpS
  rw [StateT.run_set]
  exact wpAny_pure ⟨rfl,h⟩
theorem wpS_mergeAt (C:Cmp M Ar E s kd S L){st:SortSt}{i:Nat}{pre A B post:List Keyed}{Q:Bool→SortSt→Prop}(hk:kindOf st=kd)(hf:failedOf st=none)(sS:∀ x∈(arrOf st).toList,S x)(T:Two L st i pre A B post)
    (h:∀ (st':SortSt) (R:List Keyed) (pw:Nat),kindOf st'=kd→failedOf st'=none→(arrOf st').toList=pre++(R++post)→Rise L R→R.Perm (A++B) →
      pendingOf st'=((pendingOf st).setIfInBounds i (pre.length,A.length+B.length,pw)).eraseIdxIfInBounds (i+1)→Q true st'):wpS M Ar E s (mergeAt' i) Q st:=by
  have O:=C.ord
  obtain ⟨earr,⟨pw,epa⟩,⟨pw2,epb⟩,rA,rB,nA,nB⟩:=T
  have sA:∀ x∈A,S x:=fun x hx=>sS x (by rw [earr];simp [hx])
  have sB:∀ x∈B,S x:=fun x hx=>sS x (by rw [earr];simp [hx])
  have earr2:(arrOf st).toList=(pre++A)++(B++post):=by rw [earr,List.append_assoc]
  have hsz:(arrOf st).size=pre.length+A.length+B.length+post.length:=by
    rw [← Array.length_toList,earr]
    simp only [List.length_append]
    omega
  have ga:=fun {j:Nat} (hj:j<A.length)=>seg_get earr hj
  have gb:∀ {j:Nat} (hj:j<B.length),(arrOf st)[pre.length+A.length+j]?=some B[j]:=fun {j} hj=>by
    have:=seg_get earr2 hj
    rw [List.length_append] at this
    exact this
  have ht:=fun {key:Keyed} {j:Nat} (hj:j<B.length)=>seg_t (L:=L) (key:=key) earr2 hj
  have mt:=fun {key:Keyed} (sk:S key)=>seg_mono_t O earr2 rB sB sk
  rw [List.length_append] at ht mt
  have aux:∀ {P:Prop},P→P:=fun x=>x
  unfold mergeAt'
  k_delta "mergeAt"
  refine wpS_bind (wpS_get ?_)
  dsimp only
  rw [epa,epb]
  dsimp only
  refine wpS_bind (wpS_set ?_)
  refine wpS_bind (wpS_elem (gb (j:=0) nB) ?_)
  refine wpS_bind (wpS_gallop (arr:=arrOf st) C (by exact hk) (sB _ (List.getElem_mem nB)) sS (by omega) nA (seg_mono_f O earr rA sA (sB _ (List.getElem_mem nB))) fun k hk1 t1 f1=>?_)
  dsimp only
  have hb0:∀ y∈B,L y B[0]=false:=fun y hy=>by
    obtain ⟨j,hj,rfl⟩:=List.mem_iff_getElem.mp hy
    rcases Nat.eq_zero_or_pos j with z | z
    · subst z
      exact O.irr _
    · exact rise_get rB z hj
  have hal:∀ x∈A,L A[A.length-1] x=false:=fun x hx=>by
    obtain ⟨j,hj,rfl⟩:=List.mem_iff_getElem.mp hx
    rcases Nat.lt_or_ge j (A.length-1) with z | z
    · exact rise_get rA z (by omega)
    · have:j=A.length-1:=by omega
      subst this
      exact O.irr _
  have F1:∀ x∈A.take k,L B[0] x=false:=fun x hx=>by
    obtain ⟨j,hj,q,rfl⟩:=mem_take_ix hx
    have:=t1 j hj
    rw [seg_f earr q] at this
    simpa using this
  have F1':∀ x∈A.drop k,L B[0] x=true:=fun x hx=>by
    obtain ⟨j,hj,q,rfl⟩:=mem_drop_ix hx
    have:=f1 j hj q
    rw [seg_f earr q] at this
    simpa using this
  by_cases z1:(A.length-k==0)=true
  · rw [if_pos z1]
    have ek:A.length≤k:=by
      have:A.length-k=0:=by simpa using z1
      omega
    have:=merge_rise (M:=[]) (n:=0) O rA rB sA sB (sB _ (List.getElem_mem nB)) (sA A[A.length-1] (List.getElem_mem (by omega))) hb0 hal F1 (fun y hy=>?_) (by rw [List.drop_of_length_le ek];simp) .nil
    · refine wpS_pure (h _ (A.take k++[]++B.drop 0) pw hk hf ?_ this.1 this.2 rfl)
      rw [List.take_of_length_le ek]
      simp only [List.append_nil,List.drop_zero,List.append_assoc]
      exact earr
    · exact O.step (sA _ (List.getElem_mem (by omega))) (sB _ (List.getElem_mem nB)) (sB _ hy) (hb0 y hy) (F1 _ (by rw [List.take_of_length_le ek];exact List.getElem_mem (by omega)))
  rw [if_neg z1]
  have z1':k<A.length:=by
    have:A.length-k≠0:=by simpa using z1
    omega
  have el:(arrOf st)[pre.length+k+(A.length-k)-1]?=some A[A.length-1]:=by
    rw [show pre.length+k+(A.length-k)-1=pre.length+(A.length-1) by omega]
    exact ga (by omega)
  refine wpS_bind (wpS_elem el ?_)
  refine wpS_bind (wpS_gallop (arr:=arrOf st) C (by exact hk) (sA _ (List.getElem_mem (by omega))) sS (by omega) (by omega) (mt (sA _ (List.getElem_mem (by omega)))) fun n hn t2 f2=>?_)
  dsimp only
  have F2:∀ y∈B.drop n,L y A[A.length-1]=false:=fun y hy=>by
    obtain ⟨j,hj,q,rfl⟩:=mem_drop_ix hy
    have:=f2 j hj q
    rw [ht q] at this
    exact this
  have F2':∀ y∈B.take n,L y A[A.length-1]=true:=fun y hy=>by
    obtain ⟨j,hj,q,rfl⟩:=mem_take_ix hy
    have:=t2 j hj
    rw [ht q] at this
    exact this
  by_cases z2:(n==0)=true
  · rw [if_pos z2]
    have en:n=0:=by simpa using z2
    subst en
    have:=merge_rise (M:=A.drop k) (n:=0) O rA rB sA sB (sB _ (List.getElem_mem nB)) (sA A[A.length-1] (List.getElem_mem (by omega))) hb0 hal F1 F2 (by simp) (rA.sublist (List.drop_sublist _ _))
    refine wpS_pure (h _ (A.take k++A.drop k++B.drop 0) pw hk hf ?_ this.1 this.2 rfl)
    rw [List.take_append_drop,List.drop_zero,List.append_assoc]
    exact earr
  rw [if_neg z2]
  have z2':0<n:=by
    have:n≠0:=by simpa using z2
    omega
  have ex:((arrOf st).extract (pre.length+k) (pre.length+A.length)).toList=A.drop k:=by
    rw [ext_piece _ (by omega),earr]
    rw [show pre++(A++(B++post))=(pre++A)++(B++post) by rw [List.append_assoc]]
    rw [List.take_append_of_le_length (by simp),List.take_of_length_le (by simp),← List.drop_drop]
    simp
  have ey:((arrOf st).extract (pre.length+A.length) (pre.length+A.length+n)).toList=B.take n:=by
    rw [ext_list,earr2]
    rw [show pre.length+A.length=(pre++A).length by simp,List.drop_left,List.take_append_of_le_length hn]
  generalize (arrOf st).extract (pre.length+k) (pre.length+A.length)=x at ex ⊢
  generalize (arrOf st).extract (pre.length+A.length) (pre.length+A.length+n)=y at ey ⊢
  have xs:x.size=A.length-k:=by rw [← Array.length_toList,ex,List.length_drop]
  have ys:y.size=n:=by rw [← Array.length_toList,ey,List.length_take];omega
  have y0:∀ (q:0<y.size),y[0]=B[0]:=fun q=>by
    have:y.toList[0]?=(B.take n)[0]?:=by rw [ey]
    rw [List.getElem?_take_of_lt z2',List.getElem?_eq_getElem nB,Array.getElem?_toList,getElem?_pos y 0 q] at this
    exact Option.some.inj this
  have xl:∀ (q:x.size-1<x.size),x[x.size-1]=A[A.length-1]:=fun q=>by
    have e2:(A.drop k)[x.size-1]?=some A[A.length-1]:=by
      rw [List.getElem?_drop,xs,show k+(A.length-k-1)=A.length-1 by omega]
      exact List.getElem?_eq_getElem (by omega)
    have:x.toList[x.size-1]?=some A[A.length-1]:=by
      rw [ex]
      exact e2
    rw [Array.getElem?_toList,getElem?_pos x (x.size-1) q] at this
    exact Option.some.inj this
  have fin:∀ (o:Array Keyed) (st':SortSt),Sm (setPending st (((pendingOf st).setIfInBounds i (pre.length,A.length+B.length,pw)).eraseIdxIfInBounds (i+1))) st'→Mrg L x.toList y.toList o.toList →
      wpS M Ar E s (do
        modify fun s=>setArr s (o.toList.zipIdx.foldl (fun (a:Array Keyed) (q:Keyed × Nat)=>a.setIfInBounds (pre.length+k+q.2) q.1) (arrOf s))
        return (failedOf (← get)).isNone) Q st':=by
    intro o st' sm ⟨mp,mr⟩
    rw [ex,ey] at mp
    have:=merge_rise O rA rB sA sB (sB _ (List.getElem_mem nB)) (sA A[A.length-1] (List.getElem_mem (by omega))) hb0 hal F1 F2 mp mr
    have ol:o.toList.length=A.length-k+n:=by rw [mp.length_eq,List.length_append,List.length_drop,List.length_take];omega
    refine wpS_bind (wpS_modify ?_)
    refine wpS_bind (wpS_get (wpS_pure ?_))
    have ef:failedOf st'=none:=sm.failed.trans hf
    show Q (failedOf st').isNone _
    rw [ef]
    refine h _ _ pw (sm.kind.trans hk) ef ?_ this.1 this.2 sm.pend
    show (o.toList.zipIdx.foldl _ (arrOf st')).toList=_
    have ea:arrOf st'=arrOf st:=sm.arr
    rw [ea]
    refine (wr_list o.toList 0 (pre.length+k) (arrOf st) (by omega)).trans ?_
    rw [Nat.add_zero,earr,ol]
    have t3:(pre++(A++(B++post))).take (pre.length+k)=pre++A.take k:=by
      rw [List.take_append,List.take_of_length_le (by omega),show pre.length+k-pre.length=k by omega,List.take_append_of_le_length (by omega)]
    have t4:(pre++(A++(B++post))).drop (pre.length+k+(A.length-k+n))=B.drop n++post:=by
      rw [show pre.length+k+(A.length-k+n)=pre.length+(A.length+n) by omega,← List.drop_drop,List.drop_left,← List.drop_drop,List.drop_left,List.drop_append_of_le_length hn]
    rw [t3,t4]
    simp only [List.append_assoc]
  have sx:∀ z∈x.toList,S z:=fun z hz=>sA z (by rw [ex] at hz;exact List.mem_of_mem_drop hz)
  have sy:∀ z∈y.toList,S z:=fun z hz=>sB z (by rw [ey] at hz;exact List.mem_of_mem_take hz)
  have rx:Rise L x.toList:=by rw [ex];exact rA.sublist (List.drop_sublist _ _)
  have ry:Rise L y.toList:=by rw [ey];exact rB.sublist (List.take_sublist _ _)
  have hx0:∀ z∈x.toList,L z B[0]=false:=fun z hz=>C.asym _ _ (F1' z (by rw [← ex];exact hz))
  have hyl:∀ z∈y.toList,L A[A.length-1] z=false:=fun z hz=>C.asym _ _ (F2' z (by rw [← ey];exact hz))
  by_cases z3:A.length-k≤n
  · rw [if_pos z3]
    refine wpS_bind (wpS_mergeLo C (by exact hk) sx sy rx ry (by omega) (by omega) (fun z hz=>by rw [y0 (by omega)];exact hx0 z hz) (fun z hz w hw=>?_) fin)
    rw [drop_get (by omega),show x.size-1+1=x.toList.length by simp;omega,List.drop_of_length_le (Nat.le_refl _)] at hz
    have hz:z=x[x.size-1]:=by simpa using hz
    rw [hz,xl (by omega)]
    exact hyl w hw
  · rw [if_neg z3]
    refine wpS_bind (wpS_mergeHi C (by exact hk) sx sy rx ry (by omega) (by omega) (fun z hz w hw=>?_) (fun w hw=>by rw [xl (by omega)];exact hyl w hw) fin)
    have e1:y.toList.take 1=[y[0]'(by omega)]:=by
      have:=drop_get (a:=y) (i:=0) (by omega)
      rw [List.drop_zero] at this
      rw [this]
      rfl
    rw [e1] at hw
    have hw:w=y[0]'(by omega):=by simpa using hw
    rw [hw,y0 (by omega)]
    exact hx0 z hz
end
end Srt
namespace Srt
open PySem PyProof.Rows
theorem swap_adj {xs:Array Keyed} {u v:List Keyed} {x y:Keyed} (e:xs.toList=u++(y::x::v)):(xs.swapIfInBounds (u.length+1) u.length).toList=u++(x::y::v):=by
  have sz:xs.size=u.length+(v.length+2):=by rw [← Array.length_toList,e];simp
  apply List.ext_getElem?
  intro t
  rw [Array.getElem?_toList,getElem?_swapIB (by omega) (by omega)]
  have g:∀ i,xs[i]?=(u++(y::x::v))[i]?:=fun i=>by rw [← Array.getElem?_toList,e]
  rw [g,g,g]
  by_cases h1:u.length=t
  · subst h1
    rw [if_pos rfl,List.getElem?_append_right (by omega),List.getElem?_append_right (by omega),Nat.sub_self,show u.length+1-u.length=1 by omega]
    rfl
  · rw [if_neg h1]
    by_cases h2:u.length+1=t
    · subst h2
      rw [if_pos rfl,List.getElem?_append_right (by omega),List.getElem?_append_right (by omega),Nat.sub_self,show u.length+1-u.length=1 by omega]
      rfl
    · rw [if_neg h2]
      rcases Nat.lt_or_ge t u.length with q | q
      · rw [List.getElem?_append_left q,List.getElem?_append_left q]
      · rw [List.getElem?_append_right q,List.getElem?_append_right q]
        obtain ⟨w,hw⟩:∃ w,t-u.length=w+2:=⟨t-u.length-2,by omega⟩
        rw [hw]
        rfl
theorem bubble_list {arr:Array Keyed}{pre A rest:List Keyed}{x:Keyed}(e:arr.toList=pre++(A++(x::rest))):∀ d,d≤A.length→(bubble arr (pre.length+A.length) d).toList=pre++(A.take (A.length-d)++(x::(A.drop (A.length-d)++rest)))
  | 0,_=>by
    rw [Nat.sub_zero,List.take_of_length_le (Nat.le_refl _),List.drop_of_length_le (Nat.le_refl _),List.nil_append]
    exact e
  | d + 1,h=>by
    have ih:=bubble_list e d (by omega)
    rw [bubble_succ]
    obtain ⟨m,hm⟩:∃ m,A.length-d=m+1:=⟨A.length-d-1,by omega⟩
    have hm2:A.length-(d+1)=m:=by omega
    have hmA:m<A.length:=by omega
    rw [hm] at ih
    rw [hm2]
    have e1:A.take (m+1)=A.take m++[A[m]]:=by rw [List.take_succ,List.getElem?_eq_getElem hmA];rfl
    have e2:A.drop m=A[m]::A.drop (m+1):=List.drop_eq_getElem_cons hmA
    have ih2:(bubble arr (pre.length+A.length) d).toList=(pre++A.take m)++(A[m]::x::(A.drop (m+1)++rest)):=by
      rw [ih,e1]
      simp only [List.append_assoc,List.cons_append,List.nil_append]
    have:=swap_adj ih2
    rw [show (pre++A.take m).length=pre.length+m by rw [List.length_append,List.length_take];omega] at this
    rw [show pre.length+A.length-d=pre.length+m+1 by omega,show pre.length+m+1-1=pre.length+m by omega,this,e2]
    simp only [List.append_assoc,List.cons_append,List.nil_append]
theorem mirror_list {arr:Array Keyed}{u w v:List Keyed}(e:arr.toList=u++(w++v)):(mirror arr u.length (u.length+w.length) ((u.length+w.length-u.length)/2)).toList=u++(w.reverse++v):=by
  have sz:arr.size=u.length+(w.length+v.length):=by rw [← Array.length_toList,e];simp
  apply List.ext_getElem?
  intro t
  rw [Array.getElem?_toList,getElem?_mirror_all (by omega)]
  have g:∀ i,arr[i]?=(u++(w++v))[i]?:=fun i=>by rw [← Array.getElem?_toList,e]
  rw [g,g]
  by_cases h1:u.length≤t∧t<u.length+w.length
  · rw [if_pos h1,List.getElem?_append_right (by omega),List.getElem?_append_right h1.1,List.getElem?_append_left (by omega),List.getElem?_append_left (by rw [List.length_reverse];omega),List.getElem?_reverse (by omega)]
    congr 1
    omega
  · rw [if_neg h1]
    rcases Nat.lt_or_ge t u.length with q | q
    · rw [List.getElem?_append_left q,List.getElem?_append_left q]
    · rw [List.getElem?_append_right q,List.getElem?_append_right q,List.getElem?_append_right (by omega),List.getElem?_append_right (by rw [List.length_reverse];omega),List.length_reverse]
structure Sa (st st':SortSt):Prop where
  kind:kindOf st'=kindOf st
  pend:pendingOf st'=pendingOf st
  failed:failedOf st'=failedOf st
section
variable {M:Model}{Ar:Around}{E:Value→Shared→Prop}{s:Shared}{kd:SortKind}{S:Keyed→Prop}{L:Keyed→Keyed→Bool}
theorem wpS_ltL (C:Cmp M Ar E s kd S L){st:SortSt}{i j:Nat}{x y:Keyed}{Q:Option Bool→SortSt→Prop}(hk:kindOf st=kd)(ei:(arrOf st)[i]?=some x)(ej:(arrOf st)[j]?=some y)(sx:S x)(sy:S y)(h:Q (some (L x y)) st):wpS M Ar E s (ltAt' i j) Q st:=by
  rw [ltAt'_eq]
  refine wpS_bind (wpS_get ?_)
  dsimp only
  exact wpS_bind (wpS_elem ei (wpS_bind (wpS_elem ej (C.lt _ _ _ _ sx sy hk h))))
theorem wpS_binary (C:Cmp M Ar E s kd S L) {st:SortSt} {pre A U post:List Keyed} {Q:Bool→SortSt→Prop} (hk:kindOf st=kd) (sS:∀ x∈A++U,S x) (e:(arrOf st).toList=pre++(A++(U++post))) (rA:Rise L A) (nA:0<A.length)
    (h:∀ (st':SortSt) (R:List Keyed),Sa st st'→(arrOf st').toList=pre++(R++post)→Rise L R→R.Perm (A++U)→Q true st'):wpS M Ar E s (binarySort' pre.length (A.length+U.length) A.length) Q st:=by
  have O:=C.ord
  rw [binarySort'_eq]
  rw [show max A.length 1=A.length by omega]
  refine wpS_bind (wpS_mono (wpS_forRange (I:=fun k c st'=>c.1=none∧Sa st st'∧A.length≤k∧k≤A.length+U.length∧∃ R,R.length=k∧(arrOf st').toList=pre++(R++(U.drop (k-A.length)++post))∧Rise L R∧R.Perm (A++U.take (k-A.length)))
    (Q:=fun c st'=>c.1=none∧Sa st st'∧∃ R,(arrOf st').toList=pre++(R++post)∧Rise L R∧R.Perm (A++U)) ?step ?fin ?init) ?post)
  case init=>exact ⟨rfl,⟨rfl,rfl,rfl⟩,Nat.le_refl _,by omega,A,rfl,by rw [Nat.sub_self,List.drop_zero];exact e,rA,by rw [Nat.sub_self];simp⟩
  case fin =>
    rintro c st' ⟨e1,sm,h1,h2,R,hl,ea,rR,pR⟩
    refine ⟨e1,sm,R,?_,rR,?_⟩
    · rw [ea,List.drop_of_length_le (by omega),List.nil_append]
    · rw [List.take_of_length_le (by omega)] at pR
      exact pR
  case post =>
    rintro ⟨c1,c2⟩ st' ⟨e1,sm,R,ea,rR,pR⟩
    dsimp only at e1
    subst e1
    exact wpS_pure (h st' R sm ea rR pR)
  case step =>
    rintro k ⟨c1,_⟩ st' _ hkn ⟨e1,sm,h1,h2,R,hl,ea,rR,pR⟩
    dsimp only at e1 ⊢
    subst e1
    have hu:k-A.length<U.length:=by omega
    have ed:U.drop (k-A.length)=U[k-A.length]::U.drop (k-A.length+1):=List.drop_eq_getElem_cons hu
    generalize hx:U[k-A.length]=x at ed
    have sx:S x:=sS x (by rw [← hx];exact List.mem_append_right _ (List.getElem_mem hu))
    have sR:∀ z∈R,S z:=fun z hz=>sS z (by
      rcases List.mem_append.mp (pR.mem_iff.mp hz) with q | q
      · exact List.mem_append_left _ q
      · exact List.mem_append_right _ (List.mem_of_mem_take q))
    rw [ed] at ea
    have ek:(arrOf st')[pre.length+k]?=some x:=by
      rw [← Array.getElem?_toList,ea,List.getElem?_append_right (by omega),show pre.length+k-pre.length=k by omega,List.getElem?_append_right (by omega),hl,Nat.sub_self]
      rfl
    have kk:kindOf st'=kd:=sm.kind.trans hk
    refine wpS_bind (wpS_mono (wpS_forRange (I:=fun y c st2=>st'=st2∧c.1=none∧c.2.1≤c.2.2∧c.2.2≤k∧c.2.2-c.2.1≤k-y∧(∀ z∈R.take c.2.1,L x z=false)∧(∀ z∈R.drop c.2.2,L x z=true))
      (Q:=fun c st2=>st'=st2∧c.1=none∧c.2.1≤k∧(∀ z∈R.take c.2.1,L x z=false)∧(∀ z∈R.drop c.2.1,L x z=true)) ?step2 ?fin2 ?init2) ?post2)
    case init2=>exact ⟨rfl,rfl,Nat.zero_le _,Nat.le_refl _,by dsimp only;omega,fun z hz=>by simp at hz,fun z hz=>by rw [List.drop_of_length_le (by dsimp only;omega)] at hz;simp at hz⟩
    case fin2 =>
      rintro ⟨c1,l,r⟩ st2 ⟨rfl,e1,g1,g2,g3,g4,g5⟩
      dsimp only at *
      have:l=r:=by omega
      subst this
      exact ⟨rfl,e1,g2,g4,g5⟩
    case step2 =>
      rintro y ⟨c1,l,r⟩ st2 _ hy ⟨rfl,e1,g1,g2,g3,g4,g5⟩
      dsimp only at *
      subst e1
      by_cases hlt:l≥r
      · rw [if_pos hlt]
        have:l=r:=by omega
        subst this
        exact wpS_pure ⟨rfl,rfl,g2,g4,g5⟩
      · rw [if_neg hlt]
        have hm:(l+r)/2<R.length:=by omega
        refine wpS_bind (wpS_ltL C kk ek (seg_get ea hm) sx (sR _ (List.getElem_mem hm)) ?_)
        dsimp only
        cases el:L x R[(l+r)/2] with
        | true =>
          rw [if_pos rfl]
          refine wpS_pure ⟨rfl,rfl,by dsimp only;omega,by dsimp only;omega,by dsimp only;omega,g4,fun z hz=>?_⟩
          obtain ⟨j,hj,q,rfl⟩:=mem_drop_ix hz
          dsimp only at hj
          rcases Nat.lt_or_ge ((l+r)/2) j with w | w
          · rcases O.neg x R[j] R[(l+r)/2] sx (sR _ (List.getElem_mem q)) (sR _ (List.getElem_mem hm)) el with v | v
            · exact v
            · rw [rise_get rR w q] at v
              cases v
          · have:j=(l+r)/2:=by omega
            subst this
            exact el
        | false =>
          rw [if_neg (by decide)]
          refine wpS_pure ⟨rfl,rfl,by dsimp only;omega,g2,by dsimp only;omega,fun z hz=>?_,g5⟩
          obtain ⟨j,hj,q,rfl⟩:=mem_take_ix hz
          dsimp only at hj
          rcases Nat.lt_or_ge j ((l+r)/2) with w | w
          · exact O.step (sR _ (List.getElem_mem q)) (sR _ (List.getElem_mem hm)) sx el (rise_get rR w hm)
          · have:j=(l+r)/2:=by omega
            subst this
            exact el
    case post2 =>
      rintro ⟨c1,l,r⟩ st2 ⟨rfl,e1,g2,g4,g5⟩
      dsimp only at *
      subst e1
      rw [moveDown'_eq]
      refine wpS_bind (wpS_modify (wpS_pure ⟨rfl,⟨sm.kind,sm.pend,sm.failed⟩,by omega,by omega,R.take l++(x::R.drop l),?_,?_,?_,?_⟩))
      · simp only [List.length_append,List.length_take,List.length_cons,List.length_drop]
        omega
      · show (bubble (arrOf st') (pre.length+k) (pre.length+k-(pre.length+l))).toList=_
        have:=bubble_list ea (k-l) (by omega)
        rw [hl,show k-(k-l)=l by omega] at this
        rw [show pre.length+k-(pre.length+l)=k-l by omega,this,show k+1-A.length=k-A.length+1 by omega]
        simp only [List.append_assoc,List.cons_append]
        rfl
      · refine List.pairwise_append.mpr ⟨rR.sublist (List.take_sublist _ _),List.pairwise_cons.mpr ⟨fun z hz=>O.asym _ _ (g5 z hz),rR.sublist (List.drop_sublist _ _)⟩,fun z hz w hw=>?_⟩
        rcases List.mem_cons.mp hw with q | q
        · rw [q]
          exact g4 z hz
        · have r2:=rR
          rw [← List.take_append_drop l R] at r2
          exact (List.pairwise_append.mp r2).2.2 z hz w q
      · rw [show k+1-A.length=k-A.length+1 by omega,List.take_succ,List.getElem?_eq_getElem hu,hx,← List.append_assoc]
        refine (List.perm_middle (l₁:=R.take l) (l₂:=R.drop l)).trans ?_
        rw [List.take_append_drop]
        refine (List.Perm.cons x pR).trans ?_
        exact (List.perm_append_singleton x _).symm
end
end Srt
namespace Srt
open PySem PyProof.Rows
abbrev Fall (L:Keyed→Keyed→Bool)(l:List Keyed):Prop:=l.Pairwise fun x y=>L x y=false
structure CR (st st':SortSt)(pre all D T:List Keyed):Prop where
  sa:Sa st st'
  arr:(arrOf st').toList=pre++(D++T)
  perm:(D++T).Perm all
section
variable {M:Model}{Ar:Around}{E:Value→Shared→Prop}{s:Shared}{kd:SortKind}{S:Keyed→Prop}{L:Keyed→Keyed→Bool}
theorem Sa.arr {st st':SortSt}(h:Sa st st')(a:Array Keyed):Sa st (setArr st' a):=⟨h.kind,h.pend,h.failed⟩
theorem CR.get {st st':SortSt}{pre all D T:List Keyed}(h:CR st st' pre all D T){i:Nat}(hi:i<(D++T).length):(arrOf st')[pre.length+i]?=some (D++T)[i]:=by
  rw [← Array.getElem?_toList,h.arr,List.getElem?_append_right (by omega),show pre.length+i-pre.length=i by omega]
  exact List.getElem?_eq_getElem hi
theorem CR.ends {st st':SortSt}{pre all D T:List Keyed}{x y:Keyed}(h:CR st st' pre all (D++[y]) (x::T)){n:Nat}(hn:n=D.length+1):(arrOf st')[pre.length+n]?=some x∧(arrOf st')[pre.length+n-1]?=some y:=by
  subst hn
  constructor
  · rw [← Array.getElem?_toList,h.arr,List.getElem?_append_right (by omega),show pre.length+(D.length+1)-pre.length=D.length+1 by omega,List.getElem?_append_right (by simp)]
    simp
  · rw [← Array.getElem?_toList,h.arr,List.getElem?_append_right (by omega),show pre.length+(D.length+1)-1-pre.length=D.length by omega,List.getElem?_append_left (by simp),List.getElem?_append_right (by omega)]
    simp
theorem snoc_of {D:List Keyed}(h:0<D.length):∃ D0 y,D=D0++[y]:=⟨D.dropLast,D.getLast (by intro e;rw [e] at h;simp at h),(List.dropLast_concat_getLast _).symm⟩
theorem rise_snoc (O:Ord S L){D0:List Keyed}{x y:Keyed}(sD:∀ z∈D0++[y],S z)(sx:S x)(r:Rise L (D0++[y]))(c:L x y=false):Rise L (D0++[y]++[x]):=by
  refine List.pairwise_append.mpr ⟨r,by simp,fun z hz w hw=>?_⟩
  have hw:w=x:=by simpa using hw
  subst hw
  rcases List.mem_append.mp hz with q | q
  · exact O.step (sD z hz) (sD y (by simp)) sx c ((List.pairwise_append.mp r).2.2 z q y (by simp))
  · have q:z=y:=by simpa using q
    rw [q]
    exact c
theorem fall_snoc (O:Ord S L){D0:List Keyed}{x y:Keyed}(sD:∀ z∈D0++[y],S z)(sx:S x)(r:Fall L (D0++[y]))(c:L y x=false):Fall L (D0++[y]++[x]):=by
  refine List.pairwise_append.mpr ⟨r,by simp,fun z hz w hw=>?_⟩
  have hw:w=x:=by simpa using hw
  subst hw
  rcases List.mem_append.mp hz with q | q
  · exact O.step sx (sD y (by simp)) (sD z hz) ((List.pairwise_append.mp r).2.2 z q y (by simp)) c
  · have q:z=y:=by simpa using q
    rw [q]
    exact c
theorem fall_rev {D:List Keyed}(h:Fall L D):Rise L D.reverse:=List.pairwise_reverse.mpr h
theorem CR.next {st st':SortSt}{pre all D T:List Keyed}{x:Keyed}(h:CR st st' pre all D (x::T)):CR st st' pre all (D++[x]) T:=⟨h.sa,by rw [h.arr];simp,by have:=h.perm;simpa using this⟩
theorem CR.turn {st st':SortSt}{pre all D1 W T:List Keyed}(h:CR st st' pre all (D1++W) T):CR st (setArr st' (mirror (arrOf st') (pre.length+D1.length) (pre.length+D1.length+W.length) ((pre.length+D1.length+W.length-(pre.length+D1.length))/2))) pre all (D1++W.reverse) T:=by
  refine ⟨h.sa.arr _,?_,?_⟩
  · have e:(arrOf st').toList=(pre++D1)++(W++T):=by rw [h.arr];simp
    have:=mirror_list e
    rw [List.length_append] at this
    show (mirror _ _ _ _).toList=_
    rw [this]
    simp
  · refine List.Perm.trans ?_ h.perm
    exact (List.Perm.append_left _ (List.reverse_perm W)).append_right _
theorem wpS_asc (C:Cmp M Ar E s kd S L) {st st0:SortSt} {pre all D T:List Keyed} {n nrem:Nat} {f:Nat→Option (Option Nat) × Nat→StateT SortSt Sem (ForInStep (Option (Option Nat) × Nat))} {Q:Option (Option Nat) × Nat→SortSt→Prop} (hk:kindOf st=kd) (sS:∀ x∈all,S x)
    (h:CR st st0 pre all D T) (r:Rise L D) (hn:D.length=n) (nD:0<n) (hnr:n+T.length=nrem)
    (hf:∀ x c,f x c=(do
      let __x ← ltAt' (pre.length+c.2) (pre.length+c.2-1)
      match __x with
      | some smaller=>if smaller=true then pure (ForInStep.done (none,c.2)) else pure (ForInStep.yield (none,c.2+1))
      | _=>pure (ForInStep.done (some none,c.2))))
    (h2:∀ st' D' T' m,CR st st' pre all D' T'→Rise L D'→D'.length=m→n≤m→m+T'.length=nrem→(m=nrem∨∃ D0 y x T0,D'=D0++[y]∧T'=x::T0∧L x y=true)→Q (none,m) st') :
    wpS M Ar E s (forIn [n:nrem] ((none,n):Option (Option Nat) × Nat) f) Q st0:=by
  have O:=C.ord
  refine wpS_forRange (I:=fun x c st'=>c.1=none∧c.2=x∧x≤nrem∧n≤x∧∃ D' T',CR st st' pre all D' T'∧Rise L D'∧D'.length=x∧x+T'.length=nrem) ?step ?fin ?init
  case init=>exact ⟨rfl,rfl,by omega,Nat.le_refl _,D,T,h,r,hn,hnr⟩
  case fin =>
    rintro ⟨c1,c2⟩ st' ⟨e1,e2,h3,h4,D',T',cr,r',hl,hT⟩
    dsimp only at e1 e2
    subst e1
    rw [e2]
    exact h2 st' D' T' _ cr r' hl (by omega) (by omega) (.inl (by omega))
  case step =>
    rintro x ⟨c1,c2⟩ st' hx1 hx2 ⟨e1,e2,h3,h4,D',T',cr,r',hl,hT⟩
    dsimp only at e1 e2
    subst e1 e2
    obtain ⟨D0,y,rfl⟩:=snoc_of (D:=D') (by omega)
    cases T' with
    | nil=>simp at hT;omega
    | cons z T0 =>
      have hl':c2=D0.length+1:=by rw [← hl];simp
      obtain ⟨g1,g2⟩:=cr.ends hl'
      have sall:∀ w∈D0++[y]++z::T0,S w:=fun w hw=>sS w (cr.perm.mem_iff.mp hw)
      have sz:S z:=sall z (by simp)
      have sy:S y:=sall y (by simp)
      rw [hf]
      refine wpS_bind (wpS_ltL C (cr.sa.kind.trans hk) g1 g2 sz sy ?_)
      dsimp only
      cases e:L z y with
      | true =>
        rw [if_pos rfl]
        exact wpS_pure (h2 st' _ _ _ cr r' hl (by omega) hT (.inr ⟨D0,y,z,T0,rfl,rfl,e⟩))
      | false =>
        rw [if_neg (by decide)]
        refine wpS_pure ⟨rfl,rfl,by omega,by omega,D0++[y]++[z],T0,cr.next,rise_snoc O (fun w hw=>sall w (List.mem_append_left _ hw)) sz r' e,?_,?_⟩
        · simp only [List.length_append,List.length_cons,List.length_nil] at hl ⊢
          omega
        · simp only [List.length_cons] at hT
          omega
structure Dn (L:Keyed→Keyed→Bool)(D:List Keyed)(neq:Nat):Prop where
  fall:Fall L D
  lt:neq<D.length
  same:∀ x∈D.drop (D.length-(neq+1)),∀ y∈D.drop (D.length-(neq+1)),L x y=false
theorem Dn.turn {D:List Keyed}{neq:Nat}(h:Dn L D neq):Fall L (D.take (D.length-(neq+1))++(D.drop (D.length-(neq+1))).reverse):=by
  have f:=h.fall
  rw [← List.take_append_drop (D.length-(neq+1)) D] at f
  obtain ⟨f1,f2,f3⟩:=List.pairwise_append.mp f
  refine List.pairwise_append.mpr ⟨f1,?_,fun x hx y hy=>f3 x hx y (List.mem_reverse.mp hy)⟩
  refine List.Pairwise.imp_of_mem (R:=fun _ _=>True) (fun {x y} hx hy _=>h.same x (List.mem_reverse.mp hx) y (List.mem_reverse.mp hy)) ?_
  exact List.pairwise_of_forall fun _ _=>trivial
theorem wpS_rev {i j:Nat}{st:SortSt}{Q:Unit→SortSt→Prop}(h:Q () (setArr st (mirror (arrOf st) i j ((j-i)/2)))):wpS M Ar E s (reverseSlice' i j) Q st:=by
  rw [reverseSlice'_eq]
  exact wpS_modify h
theorem CR.turnEnd {st st':SortSt}{pre all D T:List Keyed}{neq n:Nat}(h:CR st st' pre all D T)(d:Dn L D neq)(hn:D.length=n) :
    CR st (setArr st' (mirror (arrOf st') (pre.length+n-(neq+1)) (pre.length+n) ((pre.length+n-(pre.length+n-(neq+1)))/2))) pre all (D.take (n-(neq+1))++(D.drop (n-(neq+1))).reverse) T:=by
  subst hn
  have hl:=d.lt
  have h':CR st st' pre all (D.take (D.length-(neq+1))++D.drop (D.length-(neq+1))) T:=by rw [List.take_append_drop];exact h
  have:=h'.turn
  rw [List.length_take,List.length_drop,Nat.min_eq_left (by omega),show pre.length+(D.length-(neq+1))+(D.length-(D.length-(neq+1)))=pre.length+D.length by omega,show pre.length+(D.length-(neq+1))=pre.length+D.length-(neq+1) by omega] at this
  exact this
theorem drop_last {D:List Keyed}{x:Keyed}{k:Nat}(h:k≤D.length):(D++[x]).drop ((D++[x]).length-(k+1))=D.drop (D.length-k)++[x]:=by
  rw [List.length_append,List.length_singleton,show D.length+1-(k+1)=D.length-k by omega,List.drop_append_of_le_length (by omega)]
theorem wpS_desc (C:Cmp M Ar E s kd S L) {st st0:SortSt} {pre all D T:List Keyed} {n nrem:Nat} {f:Nat→Option (Option Nat) × Nat × Nat→StateT SortSt Sem (ForInStep (Option (Option Nat) × Nat × Nat))} {Q:Option (Option Nat) × Nat × Nat→SortSt→Prop} (hk:kindOf st=kd) (sS:∀ x∈all,S x)
    (h:CR st st0 pre all D T) (r:Dn L D 0) (hn:D.length=n) (hnr:n+T.length=nrem)
    (hf : ∀ x c,f x c=(do
      let __x ← ltAt' (pre.length+c.2.1) (pre.length+c.2.1-1)
      match __x with
      | some smaller =>
        if smaller=true then
          if c.2.2 > 0 then do
            reverseSlice' (pre.length+c.2.1-(c.2.2+1)) (pre.length+c.2.1)
            pure (ForInStep.yield (none,c.2.1+1,0))
          else pure (ForInStep.yield (none,c.2.1+1,0))
        else do
          let __x ← ltAt' (pre.length+c.2.1-1) (pre.length+c.2.1)
          match __x with
          | some larger=>if larger=true then pure (ForInStep.done (none,c.2.1,c.2.2)) else pure (ForInStep.yield (none,c.2.1+1,c.2.2+1))
          | _=>pure (ForInStep.done (some none,c.2.1,c.2.2))
      | _=>pure (ForInStep.done (some none,c.2.1,c.2.2))))
    (h2:∀ st' D' T' m neq,CR st st' pre all D' T'→Dn L D' neq→D'.length=m→m+T'.length=nrem→Q (none,m,neq) st') :
    wpS M Ar E s (forIn [n:nrem] ((none,n,0):Option (Option Nat) × Nat × Nat) f) Q st0:=by
  have O:=C.ord
  refine wpS_forRange (I:=fun x c st'=>c.1=none∧c.2.1=x∧x≤nrem∧∃ D' T',CR st st' pre all D' T'∧Dn L D' c.2.2∧D'.length=x∧x+T'.length=nrem) ?step ?fin ?init
  case init=>exact ⟨rfl,rfl,by omega,D,T,h,r,hn,hnr⟩
  case fin =>
    rintro ⟨c1,c2,c3⟩ st' ⟨e1,e2,h3,D',T',cr,r',hl,hT⟩
    dsimp only at e1 e2 r'
    subst e1
    exact h2 st' D' T' _ _ cr r' (hl.trans e2.symm) (by omega)
  case step =>
    rintro x ⟨c1,c2,c3⟩ st' hx1 hx2 ⟨e1,e2,h3,D',T',cr,dn,hl,hT⟩
    dsimp only at e1 e2 dn
    subst e1 e2
    obtain ⟨D0,y,eD⟩:=snoc_of (D:=D') (by have:=dn.lt;omega)
    cases T' with
    | nil=>simp at hT;omega
    | cons z T0 =>
      have hl':c2=D0.length+1:=by rw [← hl,eD];simp
      have cr':=cr
      rw [eD] at cr'
      obtain ⟨g1,g2⟩:=cr'.ends hl'
      have sall:∀ w∈D'++z::T0,S w:=fun w hw=>sS w (cr.perm.mem_iff.mp hw)
      have sz:S z:=sall z (by simp)
      have sy:S y:=sall y (by rw [eD];simp)
      have hle:=dn.lt
      simp only [List.length_cons] at hT
      rw [hf]
      refine wpS_bind (wpS_ltL C (cr.sa.kind.trans hk) g1 g2 sz sy ?_)
      dsimp only
      cases e:L z y with
      | true =>
        rw [if_pos rfl]
        have zl:∀ w∈D',L w z=false:=by
          intro w hw
          have f:=dn.fall
          rw [eD] at f hw
          rcases List.mem_append.mp hw with q | q
          · exact O.step sz sy (sall w (by rw [eD];exact List.mem_append_left _ (List.mem_append_left _ q))) ((List.pairwise_append.mp f).2.2 w q y (by simp)) (O.asym _ _ e)
          · have q:w=y:=by simpa using q
            rw [q]
            exact O.asym _ _ e
        have mk:∀ D2:List Keyed,Fall L D2→(∀ w∈D2,L w z=false)→Dn L (D2++[z]) 0:=by
          intro D2 f2 z2
          refine ⟨List.pairwise_append.mpr ⟨f2,by simp,fun w hw v hv=>?_⟩,by simp,fun u hu v hv=>?_⟩
          · have hv:v=z:=by simpa using hv
            rw [hv]
            exact z2 w hw
          · rw [drop_last (Nat.zero_le _),Nat.sub_zero,List.drop_of_length_le (Nat.le_refl _),List.nil_append] at hu hv
            have hu:u=z:=by simpa using hu
            have hv:v=z:=by simpa using hv
            rw [hu,hv]
            exact O.irr z
        by_cases hq:c3 > 0
        · rw [if_pos hq]
          have ct:=cr.turnEnd dn hl
          refine wpS_bind (wpS_rev (wpS_pure ⟨rfl,rfl,by omega,_,T0,ct.next,mk _ (by have:=dn.turn;rw [hl] at this;exact this) (fun w hw=>zl w ?_),?_,by omega⟩))
          · rcases List.mem_append.mp hw with q | q
            · exact List.mem_of_mem_take q
            · exact List.mem_of_mem_drop (List.mem_reverse.mp q)
          · simp only [List.length_append,List.length_take,List.length_reverse,List.length_drop,List.length_cons,List.length_nil]
            omega
        · rw [if_neg hq]
          refine wpS_pure ⟨rfl,rfl,by omega,D'++[z],T0,cr.next,mk _ dn.fall zl,?_,by omega⟩
          simp only [List.length_append,List.length_cons,List.length_nil]
          omega
      | false =>
        rw [if_neg (by decide)]
        refine wpS_bind (wpS_ltL C (cr.sa.kind.trans hk) g2 g1 sy sz ?_)
        dsimp only
        cases e':L y z with
        | true =>
          rw [if_pos rfl]
          exact wpS_pure (h2 st' _ _ _ _ cr dn hl (by simp only [List.length_cons];omega))
        | false =>
          rw [if_neg (by decide)]
          have yin:y∈D'.drop (D'.length-(c3+1)):=by
            rw [eD,List.length_append,List.length_singleton,List.drop_append_of_le_length (by omega)]
            simp
          refine wpS_pure ⟨rfl,rfl,by omega,D'++[z],T0,cr.next,⟨?_,by simp;omega,fun u hu v hv=>?_⟩,?_,by omega⟩
          · have f:=dn.fall
            rw [eD] at f ⊢
            exact fall_snoc O (fun w hw=>sall w (by rw [eD];exact List.mem_append_left _ hw)) sz f e'
          · dsimp only at hu hv
            rw [drop_last (by omega)] at hu hv
            have sD:∀ w∈D'.drop (D'.length-(c3+1)),S w:=fun w hw=>sall w (List.mem_append_left _ (List.mem_of_mem_drop hw))
            rcases List.mem_append.mp hu with q | q
            · rcases List.mem_append.mp hv with p | p
              · exact dn.same u q v p
              · have p:v=z:=by simpa using p
                rw [p]
                exact O.step sz sy (sD u q) (dn.same u q y yin) e'
            · have q:u=z:=by simpa using q
              rw [q]
              rcases List.mem_append.mp hv with p | p
              · exact O.step (sD v p) sy sz e (dn.same y yin v p)
              · have p:v=z:=by simpa using p
                rw [p]
                exact O.irr z
          · simp only [List.length_append,List.length_cons,List.length_nil]
            omega
theorem wpS_countRunL (C:Cmp M Ar E s kd S L) {st:SortSt} {pre all:List Keyed} {Q:Option Nat→SortSt→Prop} (hk:kindOf st=kd) (sS:∀ x∈all,S x) (e:(arrOf st).toList=pre++all) (ne:0<all.length)
    (h:∀ st' R T,Sa st st'→(arrOf st').toList=pre++(R++T)→Rise L R→(R++T).Perm all→0<R.length→Q (some R.length) st'):wpS M Ar E s (countRun' pre.length all.length) Q st:=by
  have O:=C.ord
  rw [countRun'_eq]
  obtain ⟨x0,T0,rfl⟩:∃ x T,all=x::T:=by
    cases all with
    | nil=>simp at ne
    | cons x T=>exact ⟨x,T,rfl⟩
  have c0:CR st st pre (x0::T0) [x0] T0:=⟨⟨rfl,rfl,rfl⟩,e,List.Perm.refl _⟩
  dsimp only
  refine wpS_bind (wpS_asc C hk sS c0 (by simp) rfl (by decide) (by simp;omega) (fun x c=>rfl) fun st1 D T m c1 r1 l1 m1 t1 w1=>?_)
  dsimp only
  by_cases z1:(m==(x0::T0).length)=true
  · rw [if_pos z1,← l1]
    exact wpS_pure (h st1 D T c1.sa c1.arr r1 c1.perm (by omega))
  rw [if_neg z1]
  have z1':m≠(x0::T0).length:=by simpa using z1
  obtain ⟨D0,y,x,T1,eD,eT,hxy⟩:=w1.resolve_left z1'
  subst eD eT
  have sall:∀ w∈D0++[y]++x::T1,S w:=fun w hw=>sS w (c1.perm.mem_iff.mp hw)
  have sx:S x:=sall x (by simp)
  have sD:∀ w∈D0++[y],S w:=fun w hw=>sall w (List.mem_append_left _ hw)
  have mk:∀ D2:List Keyed,Fall L D2→(∀ w∈D2,L w x=false)→Dn L (D2++[x]) 0:=by
    intro D2 f2 z2
    refine ⟨List.pairwise_append.mpr ⟨f2,by simp,fun w hw v hv=>?_⟩,by simp,fun u hu v hv=>?_⟩
    · have hv:v=x:=by simpa using hv
      rw [hv]
      exact z2 w hw
    · rw [drop_last (Nat.zero_le _),Nat.sub_zero,List.drop_of_length_le (Nat.le_refl _),List.nil_append] at hu hv
      have hu:u=x:=by simpa using hu
      have hv:v=x:=by simpa using hv
      rw [hu,hv]
      exact O.irr x
  simp only [List.length_cons] at t1
  by_cases z2:m > 1
  · rw [if_pos z2]
    have hD0:0<D0.length:=by
      simp only [List.length_append,List.length_cons,List.length_nil] at l1
      omega
    have e0:(arrOf st1)[pre.length]?=some (D0[0]'hD0):=by
      have:=c1.get (i:=0) (by simp;omega)
      rw [Nat.add_zero] at this
      rw [this,List.getElem_append_left (by simp),List.getElem_append_left hD0]
    have e1:(arrOf st1)[pre.length+m-1]?=some y:=by
      have hl':m=D0.length+1:=by rw [← l1];simp
      exact (c1.ends hl').2
    have s0:S (D0[0]'hD0):=sD _ (List.mem_append_left _ (List.getElem_mem hD0))
    refine wpS_bind (wpS_ltL C (c1.sa.kind.trans hk) e0 e1 s0 (sD y (by simp)) ?_)
    dsimp only
    cases er:L (D0[0]'hD0) y with
    | true =>
      rw [if_pos rfl,← l1]
      exact wpS_pure (h st1 _ _ c1.sa c1.arr r1 c1.perm (by omega))
    | false =>
      rw [if_neg (by decide)]
      have up0:∀ w∈D0++[y],L w (D0[0]'hD0)=false:=by
        intro w hw
        obtain ⟨j,hj,rfl⟩:=List.mem_iff_getElem.mp hw
        rcases Nat.eq_zero_or_pos j with q | q
        · subst q
          rw [List.getElem_append_left hD0]
          exact O.irr _
        · have:=rise_get r1 q hj
          rw [List.getElem_append_left (i:=0) hD0] at this
          exact this
      have upy:∀ w∈D0++[y],L y w=false:=by
        intro w hw
        rcases List.mem_append.mp hw with q | q
        · exact (List.pairwise_append.mp r1).2.2 w q y (by simp)
        · have q:w=y:=by simpa using q
          rw [q]
          exact O.irr y
      have sy:S y:=sD y (by simp)
      have toy:∀ w∈D0++[y],L w y=false:=fun w hw=>O.step sy s0 (sD w hw) (up0 w hw) er
      have eqv:∀ w∈D0++[y],∀ v∈D0++[y],L w v=false:=fun w hw v hv=>O.step (sD v hv) sy (sD w hw) (toy w hw) (upy v hv)
      have xl:∀ w∈D0++[y],L w x=false:=fun w hw=>by
        rcases O.neg x w y sx (sD w hw) sy hxy with q | q
        · exact O.asym _ _ q
        · rw [toy w hw] at q
          cases q
      have cd0:=CR.turn (D1:=[]) (by simpa using c1)
      rw [List.length_nil,Nat.add_zero,l1] at cd0
      have cd:=cd0.next
      have dd:=mk ([]++(D0++[y]).reverse) (by
        rw [List.nil_append]
        refine List.Pairwise.imp_of_mem (R:=fun _ _=>True) (fun {u v} hu hv _=>eqv u (List.mem_reverse.mp hu) v (List.mem_reverse.mp hv)) ?_
        exact List.pairwise_of_forall fun _ _=>trivial) (fun w hw=>xl w (by rw [List.nil_append] at hw;exact List.mem_reverse.mp hw))
      have ld:([]++(D0++[y]).reverse++[x]).length=m+1:=by
        rw [← l1]
        simp
      have hTd:m+1+T1.length=(x0::T0).length:=by simp only [List.length_cons] at t1 ⊢;omega
      refine wpS_bind (wpS_rev ?_)
      refine wpS_bind (wpS_lift (wpAny_rule ⟨rfl,?_⟩))
      refine wpS_bind (wpS_desc C hk sS cd dd ld hTd (fun x c=>rfl) fun st3 D3 T3 m3 neq c3 d3 l3 hT3=>?_)
      dsimp only
      have p3:=d3.lt
      by_cases hq:neq > 0
      · rw [if_pos hq]
        have ct:=c3.turnEnd d3 l3
        have ft:=d3.turn
        rw [l3] at ft
        have lt3:(List.take (m3-(neq+1)) D3++(List.drop (m3-(neq+1)) D3).reverse).length=m3:=by
          simp only [List.length_append,List.length_take,List.length_reverse,List.length_drop]
          omega
        refine wpS_bind (wpS_rev ?_)
        have ct2:=CR.turn (D1:=[]) (by simpa using ct)
        rw [List.length_nil,Nat.add_zero,lt3] at ct2
        refine wpS_bind (wpS_rev ?_)
        refine wpS_bind (wpS_asc C hk sS ct2 (by rw [List.nil_append];exact fall_rev ft) (by simp only [List.nil_append,List.length_reverse];exact lt3) (by omega) hT3 (fun x c=>rfl) fun st5 D5 T5 m5 c5 r5 l5 n5 t5 w5=>?_)
        dsimp only
        rw [← l5]
        exact wpS_pure (h st5 D5 T5 c5.sa c5.arr r5 c5.perm (by omega))
      · rw [if_neg hq]
        have ct:=c3
        have ft:=d3.fall
        have lt3:=l3
        have ct2:=CR.turn (D1:=[]) (by simpa using ct)
        rw [List.length_nil,Nat.add_zero,lt3] at ct2
        refine wpS_bind (wpS_rev ?_)
        refine wpS_bind (wpS_asc C hk sS ct2 (by rw [List.nil_append];exact fall_rev ft) (by simp only [List.nil_append,List.length_reverse];exact lt3) (by omega) hT3 (fun x c=>rfl) fun st5 D5 T5 m5 c5 r5 l5 n5 t5 w5=>?_)
        dsimp only
        rw [← l5]
        exact wpS_pure (h st5 D5 T5 c5.sa c5.arr r5 c5.perm (by omega))
  · rw [if_neg z2]
    have hD0:D0=[]:=by
      simp only [List.length_append,List.length_cons,List.length_nil] at l1
      exact List.length_eq_zero_iff.mp (by omega)
    subst hD0
    have cd:=c1.next
    have dd:=mk ([]++[y]) (by simp) (fun w hw=>by
      have hw:w=y:=by simpa using hw
      rw [hw]
      exact O.asym _ _ hxy)
    have ld:([]++[y]++[x]).length=m+1:=by
      rw [← l1]
      simp
    have hTd:m+1+T1.length=(x0::T0).length:=by simp only [List.length_cons] at t1 ⊢;omega
    refine wpS_bind (wpS_lift (wpAny_rule ⟨rfl,?_⟩))
    refine wpS_bind (wpS_desc C hk sS cd dd ld hTd (fun x c=>rfl) fun st3 D3 T3 m3 neq c3 d3 l3 hT3=>?_)
    dsimp only
    have p3:=d3.lt
    by_cases hq:neq > 0
    · rw [if_pos hq]
      have ct:=c3.turnEnd d3 l3
      have ft:=d3.turn
      rw [l3] at ft
      have lt3:(List.take (m3-(neq+1)) D3++(List.drop (m3-(neq+1)) D3).reverse).length=m3:=by
        simp only [List.length_append,List.length_take,List.length_reverse,List.length_drop]
        omega
      refine wpS_bind (wpS_rev ?_)
      have ct2:=CR.turn (D1:=[]) (by simpa using ct)
      rw [List.length_nil,Nat.add_zero,lt3] at ct2
      refine wpS_bind (wpS_rev ?_)
      refine wpS_bind (wpS_asc C hk sS ct2 (by rw [List.nil_append];exact fall_rev ft) (by simp only [List.nil_append,List.length_reverse];exact lt3) (by omega) hT3 (fun x c=>rfl) fun st5 D5 T5 m5 c5 r5 l5 n5 t5 w5=>?_)
      dsimp only
      rw [← l5]
      exact wpS_pure (h st5 D5 T5 c5.sa c5.arr r5 c5.perm (by omega))
    · rw [if_neg hq]
      have ct:=c3
      have ft:=d3.fall
      have lt3:=l3
      have ct2:=CR.turn (D1:=[]) (by simpa using ct)
      rw [List.length_nil,Nat.add_zero,lt3] at ct2
      refine wpS_bind (wpS_rev ?_)
      refine wpS_bind (wpS_asc C hk sS ct2 (by rw [List.nil_append];exact fall_rev ft) (by simp only [List.nil_append,List.length_reverse];exact lt3) (by omega) hT3 (fun x c=>rfl) fun st5 D5 T5 m5 c5 r5 l5 n5 t5 w5=>?_)
      dsimp only
      rw [← l5]
      exact wpS_pure (h st5 D5 T5 c5.sa c5.arr r5 c5.perm (by omega))
end
end Srt
namespace Srt
open PySem PyProof.Rows
def Pd (L:Keyed→Keyed→Bool):Nat→List (Nat × Nat × Nat)→List (List Keyed)→Prop
  | _,[],[]=>True
  | off,p::ps,R::rs=>p.1=off∧p.2.1=R.length∧0<R.length∧Rise L R∧Pd L (off+R.length) ps rs
  | _,_,_=>False
section
variable {S:Keyed→Prop}{L:Keyed→Keyed→Bool}
theorem Pd.len:∀ {off:Nat} {ps:List (Nat × Nat × Nat)} {rs:List (List Keyed)},Pd L off ps rs→ps.length=rs.length
  | _,[],[],_=>rfl
  | _,_::_,_::_,h=>by simp [Pd.len h.2.2.2.2]
  | _,[],_::_,h=>h.elim
  | _,_::_,[],h=>h.elim
theorem Pd.append:∀ {off:Nat} {ps qs:List (Nat × Nat × Nat)} {rs ts:List (List Keyed)},Pd L off ps rs→Pd L (off+rs.flatten.length) qs ts→Pd L off (ps++qs) (rs++ts)
  | _,[],_,[],_,_,h=>by simpa using h
  | _,_::_,_,_::_,_,h,h2=>⟨h.1,h.2.1,h.2.2.1,h.2.2.2.1,Pd.append h.2.2.2.2 (by simpa [Nat.add_assoc] using h2)⟩
  | _,[],_,_::_,_,h,_=>h.elim
  | _,_::_,_,[],_,h,_=>h.elim
theorem Pd.split:∀ {off:Nat} {ps:List (Nat × Nat × Nat)} (rs:List (List Keyed)) {ts:List (List Keyed)},Pd L off ps (rs++ts)→∃ p1 p2,ps=p1++p2∧Pd L off p1 rs∧Pd L (off+rs.flatten.length) p2 ts
  | _,ps,[],_,h=>⟨[],ps,rfl,trivial,by simpa using h⟩
  | _,p::ps,R::rs,_,h=>by
    obtain ⟨p1,p2,e,h1,h2⟩:=Pd.split rs h.2.2.2.2
    exact ⟨p::p1,p2,by rw [e];rfl,⟨h.1,h.2.1,h.2.2.1,h.2.2.2.1,h1⟩,by simpa [Nat.add_assoc] using h2⟩
  | _,[],_::_,_,h=>h.elim
theorem Pd.pos:∀ {off:Nat} {ps:List (Nat × Nat × Nat)} {rs:List (List Keyed)},Pd L off ps rs→rs.length≤rs.flatten.length
  | _,[],[],_=>by simp
  | _,_::_,R::rs,h=>by
    have:=Pd.pos h.2.2.2.2
    have:=h.2.2.1
    simp only [List.flatten_cons,List.length_append,List.length_cons]
    omega
  | _,[],_::_,h=>h.elim
  | _,_::_,[],h=>h.elim
structure SI (L:Keyed→Keyed→Bool)(kd:SortKind)(all:List Keyed)(st:SortSt)(runs:List (List Keyed))(T:List Keyed):Prop where
  arr:(arrOf st).toList=runs.flatten++T
  perm:(runs.flatten++T).Perm all
  pend:Pd L 0 (pendingOf st).toList runs
  kind:kindOf st=kd
  failed:failedOf st=none
theorem split_at {α:Type}{l:List α}{i:Nat}(h:i+1<l.length):∃ l1 a b l2,l=l1++(a::b::l2)∧l1.length=i:=by
  refine ⟨l.take i,l[i],l[i+1],l.drop (i+2),?_,by rw [List.length_take];omega⟩
  rw [← List.drop_eq_getElem_cons (by omega),← List.drop_eq_getElem_cons (by omega),List.take_append_drop]
end
section
variable {M:Model}{Ar:Around}{E:Value→Shared→Prop}{s:Shared}{kd:SortKind}{S:Keyed→Prop}{L:Keyed→Keyed→Bool}
theorem wpS_mergeRuns (C:Cmp M Ar E s kd S L){all:List Keyed}{st:SortSt}{runs:List (List Keyed)}{T:List Keyed}{i:Nat}{Q:Bool→SortSt→Prop}(sS:∀ x∈all,S x)(h:SI L kd all st runs T)(hi:i+1<runs.length)
    (q:∀ st' runs',SI L kd all st' runs' T→runs'.length+1=runs.length→runs'.flatten.length=runs.flatten.length→Q true st'):wpS M Ar E s (mergeAt' i) Q st:=by
  obtain ⟨r1,A,B,r2,er,hl⟩:=split_at hi
  subst er
  obtain ⟨p1,p2,ep,d1,d2⟩:=Pd.split r1 h.pend
  have lp:=d1.len
  obtain ⟨a,b,p3,rfl⟩:∃ a b p3,p2=a::b::p3:=by
    have:=d2.len
    match p2,this with
    | a::b::p3,_=>exact ⟨a,b,p3,rfl⟩
    | [],e=>simp at e
    | [_],e=>simp at e
  obtain ⟨a1,a2,a3,a4,b1,b2,b3,b4,d3⟩:=d2
  rw [Nat.zero_add] at a1 b1 d3
  obtain ⟨as_,an,apw⟩:=a
  obtain ⟨bs_,bn,bpw⟩:=b
  dsimp only at a1 a2 b1 b2
  subst a1 a2 b1 b2
  have hpa:(pendingOf st)[i]?=some (r1.flatten.length,A.length,apw):=by
    rw [← Array.getElem?_toList,ep,List.getElem?_append_right (by omega),show i-p1.length=0 by omega]
    rfl
  have hpb:(pendingOf st)[i+1]?=some (r1.flatten.length+A.length,B.length,bpw):=by
    rw [← Array.getElem?_toList,ep,List.getElem?_append_right (by omega),show i+1-p1.length=1 by omega]
    rfl
  have earr:(arrOf st).toList=r1.flatten++(A++(B++(r2.flatten++T))):=by
    rw [h.arr]
    simp
  refine wpS_mergeAt C h.kind h.failed (fun x hx=>sS x (h.perm.mem_iff.mp (by rw [← h.arr];exact hx))) ⟨earr,⟨_,hpa⟩,⟨_,hpb⟩,a4,b4,a3,b3⟩ fun st' R pw k' f' ar' rR pR pe'=>?_
  refine q st' (r1++(R::r2)) ⟨?_,?_,?_,k',f'⟩ ?_ ?_
  · rw [ar']
    simp
  · refine List.Perm.trans ?_ h.perm
    simp only [List.flatten_append,List.flatten_cons,List.append_assoc]
    refine List.Perm.append_left _ ?_
    rw [← List.append_assoc A]
    exact pR.append_right _
  · rw [pe']
    have lR:R.length=A.length+B.length:=by rw [pR.length_eq,List.length_append]
    have ee:(((pendingOf st).setIfInBounds i (r1.flatten.length,A.length+B.length,pw)).eraseIdxIfInBounds (i+1)).toList=p1++((r1.flatten.length,A.length+B.length,pw)::p3):=by
      have sz:(pendingOf st).size=p1.length+(p3.length+2):=by rw [← Array.length_toList,ep];simp
      rw [Array.eraseIdxIfInBounds,dif_pos (by rw [Array.size_setIfInBounds];omega)]
      have hp1:p1.length=i:=lp.trans hl
      rw [Array.toList_eraseIdx,Array.toList_setIfInBounds,ep,List.set_append_right _ _ (by omega),show i-p1.length=0 by omega,List.set_cons_zero,List.eraseIdx_append_of_length_le (by omega),show i+1-p1.length=1 by omega]
      rfl
    rw [ee]
    refine Pd.append d1 ?_
    rw [Nat.zero_add]
    exact ⟨rfl,lR.symm,by show 0<R.length;omega,rR,by rw [lR,← Nat.add_assoc];exact d3⟩
  · simp only [List.length_append,List.length_cons]
    omega
  · simp only [List.flatten_append,List.flatten_cons,List.length_append,pR.length_eq]
    omega
theorem ite_pred_le (p:Prop)[Decidable p](a:Nat):(if p then a-1 else a)≤a:=by split<;>omega
theorem SI.setLast {all:List Keyed} {st:SortSt} {runs:List (List Keyed)} {T:List Keyed} (h:SI L kd all st runs T) (pw:Nat):SI L kd all (setPending st ((pendingOf st).modify ((pendingOf st).size-1) fun (s1,len,_)=>(s1,len,pw))) runs T:=by
  refine ⟨h.arr,h.perm,?_,h.kind,h.failed⟩
  show Pd L 0 ((pendingOf st).modify _ _).toList runs
  rw [Array.toList_modify]
  generalize (pendingOf st).size-1=j
  have:∀ (ps:List (Nat × Nat × Nat)) (rs:List (List Keyed)) (off j:Nat),Pd L off ps rs→Pd L off (ps.modify j fun (s1,len,_)=>(s1,len,pw)) rs:=by
    intro ps
    induction ps with
    | nil=>intro rs off j h;simpa using h
    | cons p ps ih =>
      intro rs off j h
      cases rs with
      | nil=>exact h.elim
      | cons R rs =>
        obtain ⟨p0,p1,p2⟩:=p
        cases j with
        | zero=>exact h
        | succ j=>exact ⟨h.1,h.2.1,h.2.2.1,h.2.2.2.1,ih rs _ j h.2.2.2.2⟩
  exact this _ _ _ _ h.pend
theorem SI.push {all:List Keyed}{st st':SortSt}{runs:List (List Keyed)}{R T:List Keyed}(pe:Pd L 0 (pendingOf st').toList runs)(k:kindOf st'=kd)(f:failedOf st'=none)(ar:(arrOf st').toList=runs.flatten++(R++T))(pm:(runs.flatten++(R++T)).Perm all)(rR:Rise L R)(nR:0<R.length){lo n:Nat}
    (hlo:lo=runs.flatten.length) (hn:n=R.length):SI L kd all (setPending st' ((pendingOf st').push (lo,n,0))) (runs++[R]) T:=by
  subst hlo hn
  refine ⟨?_,?_,?_,k,f⟩
  · show (arrOf st').toList=_
    rw [ar]
    simp
  · have e:(runs++[R]).flatten++T=runs.flatten++(R++T):=by simp
    rw [e]
    exact pm
  · show Pd L 0 ((pendingOf st').push _).toList _
    rw [Array.toList_push]
    exact Pd.append pe ⟨by simp,rfl,nR,rR,trivial⟩
theorem wpS_sortRunsL (C:Cmp M Ar E s kd S L) {all:List Keyed} {st:SortSt} {Q:Unit→SortSt→Prop} (sS:∀ x∈all,S x) (k:kindOf st=kd) (f:failedOf st=none) (pe:pendingOf st=#[]) (ar:(arrOf st).toList=all)
    (h:∀ st',failedOf st'=none→(arrOf st').toList.Perm all→Rise L (arrOf st').toList→Q () st'):wpS M Ar E s sortRuns' Q st:=by
  have h0:SI L kd all st [] all:=⟨by simpa using ar,by simp,by rw [pe];trivial,k,f⟩
  have sz:(arrOf st).size=all.length:=by rw [← Array.length_toList,ar]
  rw [sortRuns'_eq]
  refine wpS_bind (wpS_get ?_)
  dsimp only
  rw [sz]
  generalize minRun' all.length all.length 0=mr
  refine wpS_bind (wpS_mono (wpS_forRange (I:=fun x c st'=>c.1=none∧x≤c.2∧∃ runs T,SI L kd all st' runs T∧runs.flatten.length=c.2)
    (Q:=fun c st'=>c.1=none∧∃ runs,SI L kd all st' runs []) ?step ?fin ?init) ?post)
  case init=>exact ⟨rfl,Nat.zero_le _,[],all,h0,rfl⟩
  case fin =>
    rintro ⟨c1,lo⟩ st' ⟨e1,hx,runs,T,si,hl⟩
    refine ⟨e1,runs,?_⟩
    dsimp only at hx hl
    have:=si.perm.length_eq
    rw [List.length_append] at this
    have hT:T=[]:=List.length_eq_zero_iff.mp (by omega)
    subst hT
    exact si
  case post =>
    rintro ⟨c1,lo⟩ st' ⟨e1,runs,si⟩
    dsimp only at e1 ⊢
    subst e1
    dsimp only
    refine wpS_bind (wpS_mono (wpS_forRange (I:=fun x c st'=>c.1=none∧∃ runs,SI L kd all st' runs []∧(runs.length+x≤all.length∨runs.length≤1)) (Q:=fun c st'=>c.1=none∧∃ runs,SI L kd all st' runs []∧runs.length≤1) ?step5 ?fin5 ?init5) ?post5)
    case init5 =>
      refine ⟨rfl,runs,si,.inl ?_⟩
      have h1:=si.pend.pos
      have h2:=si.perm.length_eq
      rw [List.append_nil] at h2
      omega
    case fin5 =>
      rintro ⟨c1,u⟩ st' ⟨e1,runs,si,hr⟩
      refine ⟨e1,runs,si,?_⟩
      omega
    case post5 =>
      rintro ⟨c1,u⟩ st' ⟨e1,runs,si,hr⟩
      dsimp only at e1
      subst e1
      have e2:=si.arr
      rw [List.append_nil] at e2
      refine wpS_pure (h st' si.failed ?_ ?_)
      · have:=si.perm
        rw [List.append_nil] at this
        rw [e2]
        exact this
      · rw [e2]
        have pd:=si.pend
        match runs,hr,pd with
        | [],_,_=>simp
        | [R],_,pd =>
          match hq:(pendingOf st').toList,pd with
          | p::ps,pd=>simpa using pd.2.2.2.1
          | [],pd=>exact pd.elim
    case step5 =>
      rintro x ⟨c1,u⟩ st' _ hx ⟨e1,runs,si,hr⟩
      dsimp only at e1
      subst e1
      have pl:(pendingOf st').size=runs.length:=by rw [← Array.length_toList];exact si.pend.len
      refine wpS_bind (wpS_get ?_)
      by_cases z:(pendingOf st').size≤1
      · rw [if_pos z]
        exact wpS_pure ⟨rfl,runs,si,by omega⟩
      · rw [if_neg z]
        refine wpS_bind (wpS_mergeRuns C sS si (Nat.lt_of_le_of_lt (Nat.add_le_add_right (ite_pred_le _ _) 1) (by omega)) fun st4 runs4 si4 hl4 _=>?_)
        simp only [Bool.not_true,Bool.false_eq_true,if_false]
        exact wpS_pure ⟨rfl,runs4,si4,by omega⟩
  case step =>
    rintro x ⟨c1,lo⟩ st' _ hx ⟨e1,hxl,runs,T,si,hl⟩
    dsimp only at e1 hxl hl ⊢
    subst e1
    by_cases z:lo≥all.length
    · rw [if_pos z]
      refine wpS_pure ⟨rfl,runs,?_⟩
      have:=si.perm.length_eq
      rw [List.length_append] at this
      have hT:T=[]:=List.length_eq_zero_iff.mp (by omega)
      subst hT
      exact si
    · rw [if_neg z]
      have lT:all.length-lo=T.length:=by
        have:=si.perm.length_eq
        rw [List.length_append] at this
        omega
      rw [lT]
      have nT:0<T.length:=by omega
      have sT:∀ x∈T,S x:=fun x hx=>sS x (si.perm.mem_iff.mp (List.mem_append_right _ hx))
      have cnt:=fun {Q:Option Nat→SortSt→Prop}=>wpS_countRunL (Q:=Q) (M:=M) (Ar:=Ar) (E:=E) (s:=s) C (st:=st') (pre:=runs.flatten) (all:=T) si.kind sT si.arr nT
      rw [hl] at cnt
      refine wpS_bind (cnt fun st1 R1 T1 sa1 ar1 rR1 pR1 nR1=>?_)
      dsimp only
      have pm1:(runs.flatten++(R1++T1)).Perm all:=(List.Perm.append_left _ pR1).trans si.perm
      have l1:R1.length+T1.length=T.length:=by rw [← List.length_append];exact pR1.length_eq
      by_cases z2:R1.length<mr
      · rw [if_pos z2]
        refine wpS_bind (wpS_lift (wpAny_rule ⟨rfl,?_⟩))
        have hk:min T.length mr=R1.length+(T1.take (min T.length mr-R1.length)).length:=by
          rw [List.length_take]
          omega
        have bs:=fun {Q:Bool→SortSt→Prop}=>wpS_binary (Q:=Q) (M:=M) (Ar:=Ar) (E:=E) (s:=s) C (st:=st1) (pre:=runs.flatten) (A:=R1) (U:=T1.take (min T.length mr-R1.length)) (post:=T1.drop (min T.length mr-R1.length)) (sa1.kind.trans si.kind)
          (fun x hx=>sT x (pR1.mem_iff.mp (by
            rcases List.mem_append.mp hx with q | q
            · exact List.mem_append_left _ q
            · exact List.mem_append_right _ (List.mem_of_mem_take q)))) (by rw [List.take_append_drop];exact ar1) rR1 nR1
        rw [hl,← hk] at bs
        refine wpS_bind (bs fun st2 R sa2 ar2 rR pR=>?_)
        simp only [Bool.not_true,Bool.false_eq_true,if_false]
        have hn:min T.length mr=R.length:=by rw [pR.length_eq,List.length_append];exact hk
        have nR:0<R.length:=by omega
        generalize hT2:T1.drop (min T.length mr-R1.length)=T2 at *
        have si2:SI L kd all st2 runs (R++T2):=by
          refine ⟨ar2,?_,by rw [sa2.pend,sa1.pend];exact si.pend,sa2.kind.trans (sa1.kind.trans si.kind),sa2.failed.trans (sa1.failed.trans si.failed)⟩
          refine List.Perm.trans (List.Perm.append_left _ ?_) pm1
          refine (pR.append_right _).trans ?_
          rw [List.append_assoc,← hT2,List.take_append_drop]
        generalize hnn:min T.length mr=nn at *
        refine wpS_bind (wpS_get ?_)
        cases eb:(pendingOf st2).back? with
        | none =>
          dsimp only
          refine wpS_bind (wpS_modify (wpS_pure ⟨rfl,by dsimp only;omega,_,T2,SI.push (st:=st2) si2.pend si2.kind si2.failed si2.arr si2.perm rR nR hl.symm hn,?_⟩))
          simp only [List.flatten_append,List.flatten_cons,List.flatten_nil,List.append_nil,List.length_append]
          omega
        | some p =>
          obtain ⟨s1,n1,w1⟩:=p
          dsimp only
          refine wpS_bind (wpS_mono (wpS_forRange (I:=fun _ c st3=>c.1=none∧∃ runs3,SI L kd all st3 runs3 (R++T2)∧runs3.flatten.length=lo) (Q:=fun c st3=>c.1=none∧∃ runs3,SI L kd all st3 runs3 (R++T2)∧runs3.flatten.length=lo) ?stepm (fun _ _ z=>z) ?initm) ?postm)
          case initm=>exact ⟨rfl,runs,si2,hl⟩
          case stepm =>
            rintro y ⟨c1,u⟩ st3 _ _ ⟨e3,runs3,si3,hl3⟩
            dsimp only at e3
            subst e3
            refine wpS_bind (wpS_get ?_)
            have pl:(pendingOf st3).size=runs3.length:=by rw [← Array.length_toList];exact si3.pend.len
            split
            next older he =>
              split
              · exact wpS_pure ⟨rfl,runs3,si3,hl3⟩
              · have h1:(pendingOf st3).size > 1:=by
                  by_cases hz:(pendingOf st3).size > 1
                  · exact hz
                  · rw [if_neg hz] at he
                    cases he
                refine wpS_bind (wpS_mergeRuns C sS si3 (by omega) fun st4 runs4 si4 _ hf4=>?_)
                simp only [Bool.not_true,Bool.false_eq_true,if_false]
                exact wpS_pure ⟨rfl,runs4,si4,hf4.trans hl3⟩
            next=>exact wpS_pure ⟨rfl,runs3,si3,hl3⟩
          case postm =>
            rintro ⟨c1,u⟩ st3 ⟨e3,runs3,si3,hl3⟩
            dsimp only at e3
            subst e3
            dsimp only
            refine wpS_bind (wpS_modify ?_)
            have si4:=si3.setLast (power' all.length (2*s1+n1) (2*s1+n1+n1+nn) all.length)
            refine wpS_bind (wpS_modify (wpS_pure ⟨rfl,by dsimp only;omega,_,T2,SI.push (st:=st3) si4.pend si4.kind si4.failed si4.arr si4.perm rR nR hl3.symm hn,?_⟩))
            simp only [List.flatten_append,List.flatten_cons,List.flatten_nil,List.append_nil,List.length_append]
            omega
      · rw [if_neg z2]
        have si2:SI L kd all st1 runs (R1++T1):=⟨ar1,pm1,by rw [sa1.pend];exact si.pend,sa1.kind.trans si.kind,sa1.failed.trans si.failed⟩
        have rR:=rR1
        have nR:=nR1
        obtain ⟨nn,hn⟩:∃ nn,nn=R1.length:=⟨_,rfl⟩
        rw [← hn]
        refine wpS_bind (wpS_get ?_)
        cases eb:(pendingOf st1).back? with
        | none =>
          dsimp only
          refine wpS_bind (wpS_modify (wpS_pure ⟨rfl,by dsimp only;omega,_,T1,SI.push (st:=st1) si2.pend si2.kind si2.failed si2.arr si2.perm rR nR hl.symm hn,?_⟩))
          simp only [List.flatten_append,List.flatten_cons,List.flatten_nil,List.append_nil,List.length_append]
          omega
        | some p =>
          obtain ⟨s1,n1,w1⟩:=p
          dsimp only
          refine wpS_bind (wpS_mono (wpS_forRange (I:=fun _ c st3=>c.1=none∧∃ runs3,SI L kd all st3 runs3 (R1++T1)∧runs3.flatten.length=lo) (Q:=fun c st3=>c.1=none∧∃ runs3,SI L kd all st3 runs3 (R1++T1)∧runs3.flatten.length=lo) ?stepm (fun _ _ z=>z) ?initm) ?postm)
          case initm=>exact ⟨rfl,runs,si2,hl⟩
          case stepm =>
            rintro y ⟨c1,u⟩ st3 _ _ ⟨e3,runs3,si3,hl3⟩
            dsimp only at e3
            subst e3
            refine wpS_bind (wpS_get ?_)
            have pl:(pendingOf st3).size=runs3.length:=by rw [← Array.length_toList];exact si3.pend.len
            split
            next older he =>
              split
              · exact wpS_pure ⟨rfl,runs3,si3,hl3⟩
              · have h1:(pendingOf st3).size > 1:=by
                  by_cases hz:(pendingOf st3).size > 1
                  · exact hz
                  · rw [if_neg hz] at he
                    cases he
                refine wpS_bind (wpS_mergeRuns C sS si3 (by omega) fun st4 runs4 si4 _ hf4=>?_)
                simp only [Bool.not_true,Bool.false_eq_true,if_false]
                exact wpS_pure ⟨rfl,runs4,si4,hf4.trans hl3⟩
            next=>exact wpS_pure ⟨rfl,runs3,si3,hl3⟩
          case postm =>
            rintro ⟨c1,u⟩ st3 ⟨e3,runs3,si3,hl3⟩
            dsimp only at e3
            subst e3
            dsimp only
            refine wpS_bind (wpS_modify ?_)
            have si4:=si3.setLast (power' all.length (2*s1+n1) (2*s1+n1+n1+nn) all.length)
            refine wpS_bind (wpS_modify (wpS_pure ⟨rfl,by dsimp only;omega,_,T1,SI.push (st:=st3) si4.pend si4.kind si4.failed si4.arr si4.perm rR nR hl3.symm hn,?_⟩))
            simp only [List.flatten_append,List.flatten_cons,List.flatten_nil,List.append_nil,List.length_append]
            omega
end
end Srt
namespace L2
open PySem PySem.Spec PyProof.Rows
abbrev bmVal:List Value:=[.type "ValueError",.type "Exception",.type "BaseException",.type "object"]
def excO (e C:Addr):HO:=.ext fun h=>∃ t,h.get? e=some { cls:=.ref C,data:=.fields #[.ref t,.none,.none,.none,.bool false,.none] }
structure XCls (K:PySem.W.Frag)(C:Addr):Prop where
  q:PySem.W.excIn K C bmVal "ValueError.__new__"=true
  kp:PySem.W.keepIn K (.ref C)=true
section
variable {K:PySem.W.Frag}{h:Heap}{C:Addr}
theorem XCls.obj (c:XCls K C) (X:K.In h):∃ (nm qn:Str) (N:Addr) (bs bm:List Value) (hd:Bool) (sn:List Str) (sub:List Value) (ab:Bool) (col:Option Bool) (dd:Option Addr) (k0 k1 k2 k3 k5:Option Value) (mN:Str→Option Value),
    h.get? C=some (excClassObj nm qn C N bs bm hd sn sub ab col dd k0 k1 k2 k3 k5 "ValueError.__new__")∧h.Ns N mN∧mN "__init__"=none∧OwnTail h bmVal bm:=by
  have q:=c.q
  unfold PySem.W.excIn at q
  split at q
  next dd cd sl ho =>
    split at q
    next C' bm k0 k1 k2 k3 n k5 hm hs =>
      simp only [Bool.and_eq_true,beq_iff_eq,Bool.not_eq_true'] at q
      obtain ⟨⟨⟨⟨⟨e1,e2⟩,hdel⟩,ht⟩,hok⟩,hni⟩:=q
      subst e1 e2
      obtain ⟨nm,bs,mro,ns,qn,hd,sn,sub,ab,col,del⟩:=cd
      dsimp only at hm hdel hok hni
      subst hm hdel
      have hsl:sl=#[k0,k1,k2,k3,some (.builtin "ValueError.__new__"),k5]:=by
        obtain ⟨l⟩:=sl
        simp only at hs
        rw [hs]
      subst hsl
      exact ⟨nm,qn,ns,bs,bm,hd,sn,sub,ab,col,dd,k0,k1,k2,k3,k5,_,X _ _ ho,.of_isNs (PySem.W.isNs_of_in X hok),PySem.W.nsMap_none_of_in X hok hni,PySem.W.tail_of_in X ht⟩
    next=>cases q
  next=>cases q
end
section
variable {P:Program}{w:World}{H:Hp}{h h':Heap}{a:Addr}{o:HO}
end
section
variable {X:Cx}{C:Addr}
end
end L2
namespace Srt
open PySem PyProof.Rows
abbrev SInt (p:Keyed):Prop:=∃ n t,p.1=.int n t
abbrev LInt (x y:Keyed):Bool:=decide (numOf x.1<numOf y.1)
section
variable {prog:Program}{w:World}{Ar:Around}{E:Value→Shared→Prop}{s:Shared}
theorem cmp_int:Cmp (model prog w) Ar E s oneType' SInt LInt where
  lt:=fun x y st Q hx hy hk h=>by
    obtain ⟨x1,x2⟩:=x
    obtain ⟨y1,y2⟩:=y
    obtain ⟨n,t,ex⟩:=hx
    obtain ⟨m,u,ey⟩:=hy
    dsimp only at ex ey
    subst ex ey
    rw [lt'_eq]
    refine wpS_bind (wpS_get ?_)
    rw [hk,keyLt'_oneType]
    exact wpS_bind (wpS_lift (wpAny_attempt (oneLt_int ⟨rfl,wpS_pure h⟩)))
  asym:=fun x y h=>by
    have h:numOf x.1<numOf y.1:=by simpa using h
    simp
    omega
  neg:=fun x y z _ _ _ h=>by
    have h:numOf x.1<numOf z.1:=by simpa using h
    simp
    omega
theorem sort_ints {a:Addr} {vs:List Value} {ns:List Int} {n:Nat} {P:Fin→Shared→Prop} (ho:s.heap.get? a=some (seqObj "list" vs.toArray n)) (hI:IntsAre vs ns) (hz:vs.length≤sizeLine)
    (h:∀ (out:Array Value) (ns':List Int),IntsAre out.toList ns'→ns'.Perm ns→ns'.Pairwise (·≤·)→P (.done (.ret .none)) { s with heap:=sortedHeap s.heap a vs out }) :
    wpAny (model prog w) Ar (Builtin.«list.sort» ⟨[.ref a],[]⟩) P E s:=by
  rw [list_sort_plain]
  have la:a<s.heap.objs.size:=Heap.lt_size ho
  refine wpAny_bind (listItems_at ho rfl (wpAny_bind (listUpdate_at ho rfl ?_ (hsz:=by simpa using hz))))
  obtain ⟨e1,h1⟩:∃ e1,(s.heap.update a (Obj.mapSeq fun _=>#[])).get? a=some (seqObj "list" #[] e1):=⟨_,get?_update_seq ho (fun _=>#[])⟩
  refine wpAny_bind (seqEpoch_at h1 rfl (wpAny_bind (wpAny_newTuple ?_ (by simpa using hz))))
  refine wpAny_bind (wpAny_newList (wpAny_holding ?_))
  have h6:(((s.heap.update a (Obj.mapSeq fun _=>#[])).push (seqObj "tuple" vs.toArray 0)).push (seqObj "list" #[] 0)).get? a=some (seqObj "list" #[] e1) :=
    Heap.get?_push_of_some _ (Heap.get?_push_of_some _ h1)
  show wpAny (model prog w) Ar _ P E { s with heap:=((s.heap.update a (Obj.mapSeq fun _=>#[])).push (seqObj "tuple" vs.toArray 0)).push (seqObj "list" #[] 0) }
  dsimp only
  have pz:(pairsOf vs).size=vs.length:=pairsOf_size vs
  have done:∀ st':SortSt,(arrOf st').toList.Perm (pairsOf vs).toList→Rise LInt (arrOf st').toList→P (.done (.ret .none)) { s with heap:=sortedHeap s.heap a vs ((arrOf st').map (·.2)) }:=by
    intro st' hp hs
    have hp':(arrOf st').Perm (pairsOf vs):=Array.perm_iff_toList_perm.mpr hp
    obtain ⟨ns',g1,g2,g3⟩:=sorted_out hI hp' (fun i j hij hj=>by
      have hj':j<(arrOf st').size:=by rw [hp'.size_eq];exact hj
      rw [K_eq (by omega),K_eq hj']
      rcases Nat.lt_or_ge i j with q | q
      · have:=List.pairwise_iff_getElem.mp hs i j (by simp;omega) (by simpa using hj') q
        simp at this
        exact this
      · have:i=j:=by omega
        subst this
        exact Int.le_refl _)
    exact h _ ns' g1 g2 g3
  by_cases h2:vs.toArray.size<2
  · rw [if_pos h2,if_pos h2]
    refine wpAny_bind (wpAny_pure ?_)
    rw [StateT.run_pure]
    refine wpAny_bind (wpAny_pure ?_)
    dsimp only
    refine wpAny_bind (seqEpoch_at h6 rfl (wpAny_bind (listUpdate_at h6 rfl ?_ (hsz2:=?_))))
    · simp only [bne_self_eq_false,Bool.false_eq_true,if_false]
      refine wpAny_pure (done (SortSt.mk' general' (pairsOf vs) #[] 7 none) (List.Perm.refl _) ?_)
      show Rise LInt (pairsOf vs).toList
      have hl:(pairsOf vs).toList.length<2:=by rw [Array.length_toList,pz];simpa using h2
      match (pairsOf vs).toList,hl with
      | [],_=>simp
      | [_],_=>simp
      | _::_::_,hl=>simp at hl;omega
    · rw [Array.size_map]
      exact Nat.le_trans (Nat.le_of_eq pz) (Nat.le_succ_of_le hz)
  · rw [if_neg h2,if_neg h2]
    obtain ⟨v1,v2,rest,ev⟩:∃ v1 v2 rest,vs=v1::v2::rest:=by
      match vs,h2 with
      | [],h2=>simp at h2
      | [_],h2=>simp at h2
      | v1::v2::rest,_=>exact ⟨v1,v2,rest,rfl⟩
    have kk:keyKind' vs.toArray=pure oneType':=by
      subst ev
      exact keyKind_ints hI
    rw [kk]
    refine wpAny_bind (wpAny_pure ?_)
    refine wpAny_bind (wpAny_mono (wpS_sortRunsL (all:=(pairsOf vs).toList) (st:=SortSt.mk' oneType' (pairsOf vs) #[] 7 none) (Q:=fun _ st'=>(arrOf st').toList.Perm (pairsOf vs).toList∧failedOf st'=none∧Rise LInt (arrOf st').toList)
      cmp_int hI.intKeys rfl rfl rfl rfl fun st' f1 p1 r1=>⟨p1,f1,r1⟩) ?_ fun _ _ e=>e)
    rintro ⟨⟨⟩,st'⟩ s' ⟨rfl,hp,hf,hr⟩
    dsimp only
    refine wpAny_bind (seqEpoch_at h6 rfl (wpAny_bind (listUpdate_at h6 rfl ?_ (hsz2:=?_))))
    · rw [hf]
      simp only [bne_self_eq_false,Bool.false_eq_true,if_false]
      exact wpAny_pure (done st' hp hr)
    · rw [Array.size_map,← Array.length_toList,hp.length_eq,Array.length_toList]
      exact Nat.le_trans (Nat.le_of_eq pz) (Nat.le_succ_of_le hz)
end
end Srt
namespace L2
open PySem PySem.Spec PyProof.Rows
section
variable {X:Cx}
theorem boot_sorted:bootBuiltins "sorted"=some (.builtin "sorted"):=by decide +kernel
end
end L2
namespace Srt
open PySem PyProof.Rows PySem.W
section
variable {prog:Program}{w:World}{Ar:Around}{E:Value→Shared→Prop}{s:Shared}
end
end Srt
namespace L2
open PySem PySem.Spec PyProof.Rows
section
variable {X:Cx}
end
end L2
namespace SG
open PySem PySem.Spec PyProof.Rows
def Ris (xs:Array Nat):Prop:=∀ i j (hj:j<xs.size) (h:i<j),xs[i]<xs[j]
theorem Ris.le {xs:Array Nat}(r:Ris xs){i j:Nat}(hj:j<xs.size)(h:i≤j):xs[i]≤xs[j]:=by
  rcases Nat.lt_or_ge i j with q | q
  · exact Nat.le_of_lt (r i j hj q)
  · have:i=j:=Nat.le_antisymm h q
    subst this
    exact Nat.le_refl _
theorem go_ok {xs:Array Nat} (r:Ris xs) (j:Nat):∀ (n lo hi:Nat),hi-lo≤n→lo≤hi→hi≤xs.size→(∀ i (h:i<xs.size),i<lo→xs[i]<j)→(∀ i (h:i<xs.size),hi≤i→j≤xs[i]) →
    (∀ i (h:i<xs.size),i<SetTable.below.go xs j n lo hi→xs[i]<j)∧(∀ i (h:i<xs.size),SetTable.below.go xs j n lo hi≤i→j≤xs[i])∧SetTable.below.go xs j n lo hi≤xs.size
  | 0,lo,hi,hn,h1,h2,a,b=>by
    have e:lo=hi:=by omega
    subst e
    unfold SetTable.below.go
    exact ⟨a,b,h2⟩
  | n + 1,lo,hi,hn,h1,h2,a,b=>by
    unfold SetTable.below.go
    by_cases q:lo<hi
    · rw [if_pos q]
      have hm:(lo+hi)/2<xs.size:=by omega
      have eg:xs.getD ((lo+hi)/2) j=xs[(lo+hi)/2]:=by simp [Array.getD,hm]
      dsimp only
      rw [eg]
      by_cases c:xs[(lo+hi)/2]<j
      · rw [if_pos c]
        refine go_ok r j n ((lo+hi)/2+1) hi (by omega) (by omega) h2 (fun i h hi'=>?_) b
        exact Nat.lt_of_le_of_lt (r.le hm (by omega)) c
      · rw [if_neg c]
        refine go_ok r j n lo ((lo+hi)/2) (by omega) (by omega) (by omega) a (fun i h hi'=>?_)
        exact Nat.le_trans (Nat.le_of_not_lt c) (r.le h hi')
    · rw [if_neg q]
      have e:lo=hi:=by omega
      subst e
      exact ⟨a,b,h2⟩
theorem below_ok {xs:Array Nat}(r:Ris xs)(j:Nat):(∀ i (h:i<xs.size),i<SetTable.below xs j→xs[i]<j)∧(∀ i (h:i<xs.size),SetTable.below xs j≤i→j≤xs[i])∧SetTable.below xs j≤xs.size:=by
  unfold SetTable.below
  exact go_ok r j xs.size 0 xs.size (by omega) (by omega) (Nat.le_refl _) (fun i h z=>absurd z (Nat.not_lt_zero _)) (fun i h z=>absurd h (by omega))
theorem ris_iff {xs:Array Nat}:Ris xs↔xs.toList.Pairwise (·<·):=by
  rw [List.pairwise_iff_getElem]
  constructor
  · intro r i j hi hj h
    have:=r i j (by simpa using hj) h
    simpa using this
  · intro r i j hj h
    have:=r i j (by simp;omega) (by simpa using hj) h
    simpa using this
theorem ris_put {xs:Array Nat}(r:Ris xs){j:Nat}(n:xs[SetTable.below xs j]?≠some j):Ris (SetTable.insertAt xs (SetTable.below xs j) j):=by
  obtain ⟨a,b,c⟩:=below_ok r j
  have b':∀ i (h:i<xs.size),SetTable.below xs j≤i→j<xs[i]:=by
    intro i h q
    have h1:=b i h q
    rcases Nat.lt_or_ge j xs[i] with z | z
    · exact z
    · exfalso
      have e:xs[i]=j:=Nat.le_antisymm z h1
      have hp:SetTable.below xs j<xs.size:=by omega
      have e2:xs[SetTable.below xs j]=j:=Nat.le_antisymm (by have:=r.le h q;omega) (b _ hp (Nat.le_refl _))
      apply n
      rw [Array.getElem?_eq_getElem hp,e2]
  generalize SetTable.below xs j=p at a b' c
  rw [ris_iff] at r ⊢
  unfold SetTable.insertAt
  have e:((xs.extract 0 p).push j++xs.extract p xs.size).toList=xs.toList.take p++j::xs.toList.drop p:=by
    simp [Array.toList_extract,List.extract]
    exact List.take_of_length_le (by rw [List.length_drop,Array.length_toList];exact Nat.le_refl _)
  rw [e,List.pairwise_append]
  refine ⟨r.sublist (List.take_sublist _ _),?_,?_⟩
  · rw [List.pairwise_cons]
    refine ⟨fun y hy=>?_,r.sublist (List.drop_sublist _ _)⟩
    obtain ⟨i,hi,rfl⟩:=List.mem_iff_getElem.mp hy
    rw [List.getElem_drop]
    have hl:p+i<xs.size:=by rw [List.length_drop,Array.length_toList] at hi;omega
    have:=b' (p+i) hl (by omega)
    simpa using this
  · intro y hy z hz
    have hy1:y<j:=by
      obtain ⟨i,hi,rfl⟩:=List.mem_iff_getElem.mp hy
      rw [List.getElem_take]
      have hl:i<p:=by rw [List.length_take] at hi;omega
      have:=a i (by rw [List.length_take,Array.length_toList] at hi;omega) hl
      simpa using this
    rcases List.mem_cons.mp hz with rfl | hz
    · exact hy1
    · obtain ⟨i,hi,rfl⟩:=List.mem_iff_getElem.mp hz
      rw [List.getElem_drop]
      have hl:p+i<xs.size:=by rw [List.length_drop,Array.length_toList] at hi;omega
      have:=b' (p+i) hl (by omega)
      have:j<xs.toList[p+i]'(by simpa using hl):=by simpa using this
      omega
theorem probe_free {t:SetTable} {f:Nat→Int} {h:Int}:∀ (n:Nat) (p:SetTable.Probe) (j:Nat) (d:Option Nat),(∀ x,p.dummy=some x→t.slot x=.dummy)→SetTable.probe.go t f h n p=some (.empty j d)→(t.slot j=.empty)∧∀ x,d=some x→t.slot x=.dummy
  | 0,p,j,d,hd,e=>by unfold SetTable.probe.go at e;cases e
  | n + 1,p,j,d,hd,e=>by
    unfold SetTable.probe.go at e
    have adv:∀ q:SetTable.Probe,(t.advance q).dummy=q.dummy:=by
      intro q
      unfold SetTable.advance
      split<;>rfl
    split at e
    · rename_i hs
      cases e
      exact ⟨hs,hd⟩
    · rename_i hs
      refine probe_free n _ j d (fun x hx=>?_) e
      rw [adv] at hx
      cases hx
      exact hs
    · split at e
      · cases e
      · refine probe_free n _ j d (fun x hx=>?_) e
        rw [adv] at hx
        exact hd x hx
theorem slot_not {t:SetTable}{j:Nat}(h:t.slot j=.empty∨t.slot j=.dummy):t.place[SetTable.below t.place j]?≠some j:=by
  intro e
  unfold SetTable.slot at h
  simp only [e,beq_self_eq_true,if_true] at h
  rcases h with h | h<;>cases h
theorem free_not {t:SetTable}{h:Int}{j:Nat}{b:Bool}(e:t.freeSlot h=some (j,b)):t.place[SetTable.below t.place j]?≠some j:=by
  unfold SetTable.freeSlot at e
  split at e
  · rename_i j0 d hp
    unfold SetTable.probe at hp
    obtain ⟨h1,h2⟩:=probe_free _ _ _ _ (fun x hx=>by cases hx) hp
    cases e
    cases d with
    | none=>exact slot_not (.inl h1)
    | some x=>exact slot_not (.inr (h2 x rfl))
  · cases e
structure Good (bt:Bool)(t:SetTable):Prop where
  led:t.led=!bt
  ris:t.plain=true→Ris t.place
theorem Good.standIn {bt:Bool}{t:SetTable}(g:Good bt t)(n:Nat):Good bt (t.standIn n):=⟨g.led,fun h=>by cases h⟩
theorem Good.layNew {bt:Bool}{t:SetTable}(g:Good bt t)(es:Array (Int × Value))(h:Int)(x:Value):Good bt (layNew t es h x).2.1:=by
  unfold PySem.layNew
  split
  · rename_i j b e
    show Good bt ((t.put j).1.orStandIn _)
    have gp:Good bt (t.put j).1:=⟨g.led,fun hp=>ris_put (g.ris hp) (free_not e)⟩
    unfold SetTable.orStandIn
    split
    · exact gp
    · exact gp.standIn _
  · exact g.standIn _
theorem Good.relayAll {bt:Bool}{t:SetTable}(g:Good bt t)(es:Array (Int × Value))(n:Nat):Good bt (relayAll t es n).2.1:=by
  unfold PySem.relayAll
  split
  · rename_i t' ord e
    have gt:Good bt t':=by
      unfold SetTable.relaid SetTable.laid at e
      simp only [Option.bind_eq_bind,Option.bind_eq_some_iff,Option.pure_def] at e
      obtain ⟨ow,_,e⟩:=e
      cases e
      refine ⟨g.led,fun _=>?_⟩
      rw [ris_iff]
      show (List.map _ _).Pairwise _
      rw [List.pairwise_map]
      refine List.Pairwise.filterMap (R:=(·<·)) _ (fun a a' haa b hb c hc=>?_) List.pairwise_lt_range
      simp only [Option.map_eq_some_iff] at hb hc
      obtain ⟨_,_,rfl⟩:=hb
      obtain ⟨_,_,rfl⟩:=hc
      exact haa
    dsimp only
    split
    · exact gt
    · exact g.standIn _
  · exact g.standIn _
end SG
namespace SG
open PySem PySem.Spec PyProof.Rows
def iv:Value→Int
  | .int k _=>k
  | _=>0
def bt (w:World):Bool:=w.params.followText "set-order"
def ST (prog:Program)(w:World)(h:Heap)(a:Addr)(ks:List Int):Prop :=
  ∃ o es ep t,h.get? a=some o∧o.ExactSet∧o.data=.set es ep t∧ElemsOf (intKind prog w) es.toList∧es.size<scanBound∧t.fits es.size=true∧Good (bt w) t∧(es.toList.map fun e=>iv e.2)=ks∧ks.Nodup
section
variable {prog:Program}{w:World}{A:Around}{E:Value→Shared→Prop}{s:Shared}
theorem isInt_iv {k:Int}{e:Int × Value}{es:List (Int × Value)}(el:ElemsOf (intKind prog w) es)(he:e∈es):(intKind prog w).is k e.2=true↔iv e.2=k:=by
  obtain ⟨⟨k',h1,_⟩,_⟩:=el e he
  obtain ⟨t,e2⟩:=Value.isInt_shape h1
  rw [e2]
  constructor
  · intro h
    exact (intKind prog w).inj _ _ _ (intKind_is prog w k' t) h
  · intro h
    have h:k'=k:=h
    subst h
    exact intKind_is prog w k' t
theorem put_at {h:Heap}{a:Addr}{o:Obj}{es:Array (Int × Value)}{ep:Nat}{t:SetTable}(ho:h.get? a=some o)(hd:o.data=.set es ep t)(es':Array (Int × Value))(t':SetTable) :
    (h.update a (Obj.putSet es' t')).get? a=some { o with data:=.set es' (ep+1) t' }:=by
  have q:=Heap.get?_update_self (Obj.putSet es' t') ho (by rw [putSet_of es' t' hd];rfl)
  rw [putSet_of es' t' hd] at q
  exact q
theorem size_perm {es es':Array (Int × Value)}(p:es'.toList.Perm es.toList):es'.size=es.size:=by
  rw [← Array.length_toList,p.length_eq,Array.length_toList]
theorem tail_add {g:Bool→Sem Unit}(hg:∀ (b:Bool) (s1:Shared) (Q':Unit→Shared→Prop),Q' () s1→wpAny (model prog w) A (g b) Q' E s1){a:Addr}{o:Obj}{es:Array (Int × Value)}{ep:Nat}{t:SetTable}(ho:s.heap.get? a=some o)(hx:o.ExactSet)(hd:o.data=.set es ep t)
    {es1:Array (Int × Value)} {t2:SetTable} {wd:Bool} {R:Option Bool→Shared→Prop} (el:ElemsOf (intKind prog w) es1.toList) (hb:es1.size<scanBound) (hf:t2.fits es1.size=true) (gd:Good (bt w) t2) (nd:(es1.toList.map fun e=>iv e.2).Nodup)
    (q:∀ h' ks',Heap.SameBut a s.heap h'→ST prog w h' a ks'→ks'.Perm (es1.toList.map fun e=>iv e.2)→R (some true) { s with heap:=h' }) :
    wpAny (model prog w) A (do storeSet a es1 t2;if (!wd&&t2.tooFull)=true then (do g (relayAll t2 es1 (SetTable.grown es1.size)).2.2;storeSet a (relayAll t2 es1 (SetTable.grown es1.size)).1 (relayAll t2 es1 (SetTable.grown es1.size)).2.1;pure (some true)) else pure (some true)) R E s:=by
  refine wpAny_bind (wpAny_storeSet_of ho hd ?_ (fits_of_scanBound hb))
  have ho1:=put_at ho hd es1 t2
  have sb:=Heap.SameBut.update s.heap a (Obj.putSet es1 t2)
  split
  · have pp:=relayAll_perm t2 es1 (SetTable.grown es1.size)
    have pf:=relayAll_fits t2 es1 (SetTable.grown es1.size)
    have pg:=gd.relayAll es1 (SetTable.grown es1.size)
    generalize relayAll t2 es1 (SetTable.grown es1.size)=Z at pp pf pg ⊢
    obtain ⟨es2,t3,gv⟩:=Z
    have pp:es2.toList.Perm es1.toList:=pp
    have hb2:es2.size<scanBound:=by rw [size_perm pp];exact hb
    refine wpAny_bind (hg _ _ _ (wpAny_bind (wpAny_storeSet_of ho1 rfl ?_ (fits_of_scanBound hb2))))
    refine wpAny_pure (q _ _ (sb.trans (Heap.SameBut.update _ a _)) ⟨_,es2,_,t3,put_at ho1 rfl es2 t3,hx,rfl,el.perm pp,hb2,pf,pg,rfl,?_⟩ (pp.map _))
    exact (pp.map fun e=>iv e.2).nodup_iff.mpr nd
  · exact wpAny_pure (q _ _ sb ⟨_,es1,_,t2,ho1,hx,rfl,el,hb,hf,gd,rfl,nd⟩ (.refl _))
theorem add_int {a:Addr} {ks:List Int} {k:Int} {tk:Tok} {Q:Bool→Shared→Prop} (hS:ST prog w s.heap a ks) (room:ks.length+1<scanBound)
    (q:∀ b h' ks',Heap.SameBut a s.heap h'→ST prog w h' a ks'→(∀ y,y∈ks'↔y∈ks∨y=k)→ks'.length≤ks.length+1→Q b { s with heap:=h' }):wpAny (model prog w) A (setAddHashed a (.int k tk) ((intKind prog w).hash k)) Q E s:=by
  obtain ⟨o,es,ep,t,ho,hx,hd,el,hb,hf,gd,rfl,nd⟩:=hS
  have hk:=intKind_is prog w k tk
  have lz:(es.toList.map fun e=>iv e.2).length=es.size:=by rw [List.length_map,Array.length_toList]
  unfold setAddHashed;unfold setAddHashedIn;refine wpAny_holding (wpAny_bind (wpAny_setState_of ho hd hf ?_));dsimp only
  rw [byScan_of (x:=Value.int k tk) rfl hb el,if_pos rfl]
  unfold setAddByScan
  refine wpAny_bind (wpAny_bind (wpAny_rule (wpAny_bind (wpAny_setScan_of hk ho hd hf el ?_))))
  cases hr:List.findIdx? (fun e=>(intKind prog w).is k e.2) es.toList with
  | some j =>
    dsimp only
    obtain ⟨hj,pj,_⟩:=List.findIdx?_eq_some_iff_getElem.mp hr
    have hm:k∈es.toList.map fun e=>iv e.2:=List.mem_map.mpr ⟨_,List.getElem_mem hj,(isInt_iv el (List.getElem_mem hj)).mp pj⟩
    refine wpAny_pure (wpAny_pure ?_)
    have:=q false s.heap _ (Heap.SameBut.refl a s.heap) ⟨o,es,ep,t,ho,hx,hd,el,hb,hf,gd,rfl,nd⟩ (fun y=>⟨.inl,fun z=>z.elim id fun e=>e ▸ hm⟩) (Nat.le_succ _)
    exact this
  | none =>
    dsimp only
    have hm:k∉es.toList.map fun e=>iv e.2:=by
      intro z
      obtain ⟨e,he,e1⟩:=List.mem_map.mp z
      have:=List.findIdx?_eq_none_iff.mp hr e he
      rw [(isInt_iv el he).mpr e1] at this
      cases this
    have gw:∀ (b:Bool) (s1:Shared) (Q':Unit→Shared→Prop),Q' () s1→wpAny (model prog w) A (match b with | true=>rule "set.scan.the-table-gave-way" | false=>pure ()) Q' E s1:=fun b s1 Q' z=>by
      cases b
      · exact wpAny_pure z
      · exact wpAny_rule z
    have lp:=layNew_perm t es ((intKind prog w).hash k) (.int k tk)
    have lf:=layNew_fits t es ((intKind prog w).hash k) (.int k tk)
    have lg:=gd.layNew es ((intKind prog w).hash k) (.int k tk)
    generalize layNew t es ((intKind prog w).hash k) (.int k tk)=Z at lp lf lg ⊢
    obtain ⟨es1,t1,wd,gv⟩:=Z
    have lf:t1.fits es1.size=true:=lf
    have lg:Good (bt w) t1:=lg
    have lp:es1.toList.Perm (es.toList++[((intKind prog w).hash k,.int k tk)]):=by
      have:=lp
      rwa [Array.toList_push] at this
    have el1:ElemsOf (intKind prog w) es1.toList:=(el.push hk rfl).perm lp
    have l1:es1.size=es.size+1:=by
      have:=lp.length_eq
      rw [List.length_append,Array.length_toList,Array.length_toList] at this
      exact this
    have hb1:es1.size<scanBound:=by rw [l1];rw [lz] at room;exact room
    have pm:(es1.toList.map fun e=>iv e.2).Perm ((es.toList.map fun e=>iv e.2)++[k]):=by
      have:=lp.map fun e=>iv e.2
      rwa [List.map_append] at this
    have nd1:(es1.toList.map fun e=>iv e.2).Nodup:=by
      rw [pm.nodup_iff,List.nodup_append]
      exact ⟨nd,(by simp),fun x hx y hy e=>hm (by rw [List.mem_singleton.mp hy] at e;rw [← e];exact hx)⟩
    have fin:∀ h' ks',Heap.SameBut a s.heap h'→ST prog w h' a ks'→ks'.Perm (es1.toList.map fun e=>iv e.2)→Q true { s with heap:=h' }:=fun h' ks' sb st p=>by
      refine q true h' ks' sb st (fun y=>?_) ?_
      · rw [p.mem_iff,pm.mem_iff,List.mem_append,List.mem_singleton]
      · rw [p.length_eq,List.length_map,Array.length_toList,l1,lz]
        exact Nat.le_refl _
    dsimp only
    refine wpAny_bind (gw _ _ _ ?_)
    split
    · refine wpAny_bind ?_
      rw [hashByValue_scannable 8 (x:=Value.int k tk) rfl]
      refine wpAny_pure (tail_add (fun b s1 Q' z=>gw b s1 Q' z) ho hx hd el1 hb1 ?_ ?_ nd1 fun h' ks' sb st p=>wpAny_pure (fin h' ks' sb st p))
      · exact lf
      · exact lg
    · refine wpAny_bind (wpAny_pure (tail_add (fun b s1 Q' z=>gw b s1 Q' z) ho hx hd el1 hb1 ?_ ?_ nd1 fun h' ks' sb st p=>wpAny_pure (fin h' ks' sb st p)))
      · exact lf
      · exact lg
set_option maxHeartbeats 3200000 in
end
end SG
namespace SG
open PySem PySem.Spec PyProof.Rows
section
variable {prog:Program}{w:World}{A:Around}{E:Value→Shared→Prop}{s:Shared}{a:Addr}{o:Obj}{es:Array (Int × Value)}{ep:Nat}{t:SetTable}
end
end SG
namespace SG
open PySem PySem.Spec PyProof.Rows
section
variable {prog:Program}{w:World}{A:Around}{E:Value→Shared→Prop}{s:Shared}{a I:Addr}{o:Obj}{es:Array (Int × Value)}{ep:Nat}{t:SetTable}
end
end SG
namespace SG
open PySem PySem.Spec PyProof.Rows
structure Wk (prog:Program)(w:World)(h0 h2:Heap)(a:Addr)(ks:List Int)(I:Addr):Prop where
  ex:∃ (fp wr:List Addr) (vs:List Value) (ks':List Int) (St:Nat→Heap→Prop),(∀ A:Around,A.handled=none→Walks prog w A I fp wr vs.length (fun i v=>vs[i]?=some v) St)∧St 0 h2∧(∀ b∈fp,b<h2.objs.size)∧I∈fp∧(∀ b∈wr,h0.get? b=none)∧IntsAre vs ks'∧ks'.Perm ks∧(∀ b∈fp,b=a∨h0.get? b=none)
  old:∀ b o,h0.get? b=some o→h2.get? b=some o
section
variable {prog:Program}{w:World}{A:Around}{E:Value→Shared→Prop}{s:Shared}{a I:Addr}{o:Obj}{es:Array (Int × Value)}{ep:Nat}{t:SetTable}
end
end SG
namespace SG
open PySem PySem.Spec PyProof.Rows
section
variable {prog:Program}{w:World}{A:Around}{E:Value→Shared→Prop}{s:Shared}{a:Addr}
end
end SG
namespace SG
open PySem PySem.Spec PyProof.Rows Srt
section
variable {prog:Program}{w:World}{Ar:Around}{E:Value→Shared→Prop}{s:Shared}{a:Addr}
end
end SG
namespace L2
open PySem PySem.Spec PyProof.Rows
section
variable {X:Cx}{pins:List (Addr × Obj)}{σ:St}{H:Hp}{s:Shared}
end
section
variable {X:Cx}{e:Expr}{te:TE}{p p' pos pos':Pos}
end
end L2
namespace L2
open PySem PySem.Spec PyProof.Rows Srt SG
theorem hu1 {A:Around}{k:Nat}(hr:Room k A):A.units+1<cLine:=Nat.lt_of_le_of_lt (by omega) (hu64 hr)
section
variable {td ty tx tv:TE}{σ:St}{H:Hp}{Q:VK}{D:Ends}
theorem tDGet_ap:tDGet td ty σ H Q=td σ H fun x H1=>ty σ H1 fun y H2=>∃ a v,x=.ref a∧DGet H2 a y (some v)∧Q v H2:=rfl
theorem sDPut_ap:sDPut td ty tv D σ H=tv σ H fun v H1=>td σ H1 fun x H2=>ty σ H2 fun y H3=>∃ a H4,x=.ref a∧DPut H3 a y v H4∧D.nx σ H4:=rfl
end
theorem intsAre_get:∀ {vs:List Value} {ns:List Int},vs.length=ns.length→(∀ (j:Nat) (v:Value),vs[j]?=some v→∃ i t,ns[j]?=some i∧v=Value.int i t)→IntsAre vs ns
  | [],[],_,_=>.nil
  | [],_::_,h,_=>by cases h
  | _::_,[],h,_=>by cases h
  | v::vs,n::ns,h,g=>by
    obtain ⟨i,t,e,rfl⟩:=g 0 v rfl
    cases (show n=i from Option.some.inj e)
    exact .cons n t (intsAre_get (Nat.succ.inj h) fun j v e=>g (j+1) v e)
section
variable {X:Cx}{x:Str}{p pos:Pos}
theorem pe_makeF0 {C:Addr}{ps:List Str}{k:Nat}{sp:Sp}(F:MakeAt X.prog X.w X.K X.mg X.base x C ps k sp)(hr:Room (k+1) X.A)(hg:Gl X x)(hdb:(x==("__debug__":Str))=false:=by decide):PE X (.Call (.Name x p) [] [] pos) (tMake C sp [] E0 tNil):=by
  obtain ⟨hm,f,fd,M,F,b⟩:=F
  exact pe_make0 M F hr hg hm b .nil pass0 hdb
end
section
variable {X:Cx}
def rSortD:List V→Hp→VK→Prop:=fun xs H Q=>∃ (a:Addr) (kvs:List (Key × V)) (ns:List Int),xs=[.ref a]∧H a=some (.dK kvs)∧kvs.map (·.1)=ns.map Sum.inl∧∀ (l:Addr) (ns':List Int),H l=none→ns'.Perm ns→ns'.Pairwise (·≤·)→Q (.ref l) (upd H l (.lst (ns'.map V.int)))
theorem rSortD_ap {xs:List V}{H:Hp}{Q:VK}:rSortD xs H Q=∃ (a:Addr) (kvs:List (Key × V)) (ns:List Int),xs=[.ref a]∧H a=some (.dK kvs)∧kvs.map (·.1)=ns.map Sum.inl∧∀ (l:Addr) (ns':List Int),H l=none→ns'.Perm ns→ns'.Pairwise (·≤·)→Q (.ref l) (upd H l (.lst (ns'.map V.int))):=rfl
theorem call_sortedD (hc:X.calm=true:=by rfl):CallR X (.builtin "sorted") rSortD:=by
  intro pins s σ H xs us Q I r h
  obtain ⟨a,kvs,ns,rfl,ha,hk,q⟩:=h
  obtain ⟨u,rfl,ru⟩:=r.one
  cases (show u=Value.ref a from ru)
  obtain ⟨hz,lo,vs,kv,o,es,ep,g1,g2,g3,g4,g5,g6⟩:=dk_of I.hok ha
  have lk:kvs.length=vs.length:=kv.length
  have ln:ns.length=kvs.length:=by have:=congrArg List.length hk;rw [List.length_map,List.length_map] at this;exact this.symm
  refine Calls.call_function_entry kind_sorted plain_sorted entry_sorted (args_sorted1 _) ?_
  unfold Builtin.«sorted»
  refine wpAny_bind (m:=checkCount "sorted" 1 1 _) (wpAny_pure ?_)
  refine wpAny_bind (PySem.W.kdu_collect (A:=X.A.in1) (PySem.W.kdl_dict (knd:=mixKind X.prog X.w) (kvs:=vs) (ep:=ep) lo) (show X.A.in1.handled=none from I.ok.hd hc) ⟨o,es,g1,g2,g3,g4,g5,g6⟩ (by omega) fun h1 tk acc old hacc=>?_)
  have hi:IntsAre acc.toList ns:=by
    refine intsAre_get (by rw [Array.length_toList,hacc.1];omega) fun j v hv=>?_
    obtain ⟨k,y,e1,e2⟩:=hacc.2 j v (by rw [← Array.getElem?_toList];exact hv)
    have ek:(vs.map (·.1))[j]?=some k:=by rw [List.getElem?_map,e1];rfl
    rw [← kv.keys,hk,List.getElem?_map] at ek
    cases en:ns[j]? with
    | none=>rw [en] at ek;cases ek
    | some i =>
      rw [en] at ek
      cases (show Sum.inl i=k from Option.some.inj ek)
      rw [mixKind_is] at e2
      rcases keyIs_shape e2 with ⟨i',t,z1,z2⟩ | ⟨x,t,z1,z2⟩
      · cases z1
        exact ⟨i,t,rfl,z2⟩
      · cases z1
  have lv:acc.toList.length≤sizeLine:=by rw [IntsAre.length hi];omega
  refine wpAny_bind (wpAny_newList ?_ (by simpa using lv))
  have oL:(h1.push (seqObj "list" acc.toList.toArray 0)).get? h1.objs.size=some (seqObj "list" acc.toList.toArray 0):=Heap.get?_push_size _ rfl
  show wpAny _ _ _ _ _ { s with heap:=h1.push (seqObj "list" acc.toList.toArray 0),toks:=tk }
  refine wpAny_bind (wpAny_holding (wpAny_call_entry slot_list_sort ⟨_,oL,rfl⟩ entry_list_sort (Srt.sort_ints oL hi lv fun out ns' g1 g2 g3=>⟨_,rfl,?_⟩) (args_list_sort _)))
  obtain ⟨e,he⟩:=sortedHeap_at (out:=out) oL
  have I1:Inv X pins σ H { s with heap:=h1,toks:=tk }:=I.kept old
  have lo2:(ns'.map V.int).length≤sizeLine:=by rw [List.length_map,g2.length_eq];omega
  refine wpAny_pure ⟨_,rfl,.ref h1.objs.size,_,I1.laid (t':=tk) (o:=.lst (ns'.map V.int)) (fun b u e2=>?_) (Nat.le_refl _) ⟨lo2,out.toList,e,vals_ints g1,by rw [Array.toArray_toList];exact he⟩,rfl,q _ ns' (I1.hok.fresh (Nat.le_refl _)) g2 g3⟩
  have lb:b<h1.objs.size:=Heap.lt_size e2
  rw [sortedHeap_old (Nat.ne_of_lt lb) (by rw [size_push'];exact Nat.lt_succ_of_lt lb)]
  exact Heap.get?_push_of_some _ e2
end
end L2
namespace ZL
open PySem
abbrev ZipH (h:Heap)(z TI TO T:Addr)(b:Bool):Prop :=
  h.get? z=some { cls:=.type "zip",dict:=none,data:=.fields #[rawInt T,.bool b,.bool false,.ref TI,.ref TO],slots:=#[] }
section
variable {prog:Program}{w:World}{A:Around}{E:Value→Shared→Prop}{s:Shared}
theorem alive {M:Model}{a:Addr}{Q:Option Obj→Shared→Prop}(h:Q (s.heap.get? a) s):wpAny M A (loadIfAlive a) Q E s:=fun _ _ _=>h
structure ZI (z TI TO i1 i2 l1 l2:Addr)(xs ys:Array Value)(m i:Nat)(Ts:List Addr)(h:Heap):Prop where
  zz:(i=0∧IsZip h z TI TO .none∧∃ a b,IsPair h TO a b)∨(∃ T0 b,Ts[0]?=some T0∧ZipH h z TI TO T0 b)
  ti:IsPair h TI (.ref i1) (.ref i2)
  it1:h.IsListIter i1 l1 i
  it2:h.IsListIter i2 l2 i
  li1:h.IsList l1 xs
  li2:h.IsList l2 ys
  len:Ts.length=i
  nd:Ts.Nodup
  new:∀ T∈Ts,m≤T
  tup:∀ (j:Nat) (T:Addr),Ts[j]?=some T→∃ x y,xs[j]?=some x∧ys[j]?=some y∧IsPair h T x y
end
end ZL
namespace L2
open PySem PySem.Spec PyProof.Rows
section
variable {X:Cx}{pins:List (Addr × Obj)}{σ:St}{H:Hp}{s:Shared}{h':Heap}
end
section
variable {X:Cx}{a b:Expr}{ta:TA}{p p' pos pos':Pos}
end
end L2
namespace L2
open PySem PySem.Spec PyProof.Rows
section
variable {X:Cx}
theorem gOwn_pair {K:PySem.W.Frag}{n:Nat}:gOwn 2 (gTup K n (gCons (gName 0) (gCons (gName 1) gNil))):=by
  intro v σ H Q h
  simp only [gTup_ap,gCons_ap,gName_ap,gNil_ap] at h ⊢
  obtain ⟨a,xs,e1,e2,e3,u,r,e4,u1,r1,e5,e6,q⟩:=h
  exact ⟨a,xs,e1,e2,e3,u,r,e4,u1,r1,e5,e6,⟨by simp,by rcases σ with _ | ⟨_,_ | ⟨_,_⟩⟩<;>simp⟩,q⟩
end
end L2
namespace L2
open PySem PySem.Spec PyProof.Rows
section
variable {td ty tx:TE}{σ:St}{H:Hp}{Q:VK}
theorem tDIn_ap:tDIn ty td σ H Q=ty σ H fun y H1=>td σ H1 fun x H2=>∃ a o,x=.ref a∧DGet H2 a y o∧Q (.bl o.isSome) H2:=rfl
theorem tDNotIn_ap:tDNotIn ty td σ H Q=ty σ H fun y H1=>td σ H1 fun x H2=>∃ a o,x=.ref a∧DGet H2 a y o∧Q (.bl (!o.isSome)) H2:=rfl
end
end L2
namespace L2
open PySem PySem.Spec PyProof.Rows
section
variable {X:Cx}{o e f:Expr}{apos cpos:Pos}{td ty tx:TE}
end
end L2
namespace L2
open PySem PySem.Spec PyProof.Rows
section
variable {X:Cx}
def rSlS:V→Option Int→Option Int→Hp→VK→Prop:=fun x lo hi H Q=>∃ z,x=.str z∧z.length≤sizeLine∧Q (.str (Txt.slice z lo hi)) H
theorem sl_str:SlR X rSlS:=by
  intro pins s σ H x v vl vu lo hi sl Q I rx hs pl pu h
  obtain ⟨z,rfl,hz,q⟩:=h
  obtain ⟨t,rfl⟩:=rx
  have fin:∀ t' k,EP X pins σ Q (.str (Txt.slice z lo hi) t') { s with toks:=k }:=fun t' k=>⟨.str (Txt.slice z lo hi),H,I.tok _,⟨_,rfl⟩,q⟩
  have le:=Nat.le_trans (Txt.slice_le z lo hi) hz
  refine ⟨"str",_,PySem.F.slot_str_getitem.lookup,typeIs_str _ _ _,?_⟩
  cases pl with
  | none =>
    cases pu with
    | none=>exact wpAny_getItem_str_slice (l:=none) (u:=none) (st:=none) hs rfl (post_val_or_str ⟨le,fin⟩)
    | int j uj=>exact wpAny_getItem_str_slice (l:=none) (u:=some (j,uj)) (st:=none) hs rfl (post_val_or_str ⟨le,fin⟩)
  | int i ui =>
    cases pu with
    | none=>exact wpAny_getItem_str_slice (l:=some (i,ui)) (u:=none) (st:=none) hs rfl (post_val_or_str ⟨le,fin⟩)
    | int j uj=>exact wpAny_getItem_str_slice (l:=some (i,ui)) (u:=some (j,uj)) (st:=none) hs rfl (post_val_or_str ⟨le,fin⟩)
theorem rSlS_ap {x:V}{lo hi:Option Int}{H:Hp}{Q:VK}:rSlS x lo hi H Q=∃ z,x=.str z∧z.length≤sizeLine∧Q (.str (Txt.slice z lo hi)) H:=rfl
theorem boot_allB:bootBuiltins "all"=some (.builtin "all"):=by decide +kernel
def rAll (K:PySem.W.Frag):List V→Hp→VK→Prop:=fun xs H Q=>∃ (p:Addr) (bs:List Bool),xs=[.ref p]∧SqL K H p (bs.map V.bl)∧Q (.bl (bs.all id)) H
theorem call_allK (K:PySem.W.Frag) (hK:X.K=K:=by rfl) (hc:X.calm=true:=by rfl):CallR X (.builtin "all") (rAll K):=by
  subst hK
  intro pins s σ H xs us Q I r h
  obtain ⟨p,bs,rfl,hS,q⟩:=h
  obtain ⟨u,rfl,ru⟩:=r.one
  cases (show u=Value.ref p from ru)
  obtain ⟨its,vi,pl,hz⟩:=I.list hS
  have ne:p≠s.heap.objs.size:=by obtain ⟨o,e,_⟩:=pl.isList;exact Nat.ne_of_lt (Heap.lt_size e)
  have hb:∀ (i:Nat) (v:Value),its.toArray[i]?=some v→v=.bool (bs.getD i false):=fun i v e=>by
    have e2:its[i]?=some v:=by simpa using e
    have hi:i<bs.length:=by
      have:=(List.getElem?_eq_some_iff.mp e2).1
      have:=vi.length
      rw [List.length_map] at this
      omega
    obtain ⟨u,hu,ru⟩:=vi.get (i:=i) (x:=.bl (bs.getD i false)) (by rw [List.getElem?_map,List.getElem?_eq_getElem hi,List.getD_eq_getElem?_getD,List.getElem?_eq_getElem hi];rfl)
    rw [hu] at e2
    cases e2
    exact ru
  refine call_all_walk (wpAny_pyIter_list pl.isList ?_)
  refine ⟨s.heap.objs.size,_,_,_,_,_,fun i=>bs.getD i false,rfl,Walks.list (A:=X.A.in1) (show X.A.in1.handled=none from I.ok.hd hc) s.heap.objs.size p ne its.toArray,⟨⟨_,Heap.get?_push_size _ rfl,rfl,rfl⟩,pl.isList.push _⟩,fun i v s2 Q2 E2 hP hQ=>?_,fun h' tk hk=>?_⟩
  · rw [hb i v hP]
    exact wpAny_truthy_bool hQ
  · have e:(List.range its.toArray.size).all (fun i=>bs.getD i false)=bs.all id:=by
      have hl:its.toArray.size=bs.length:=by
        have:=vi.length
        rw [List.length_map] at this
        simpa using this.symm
      rw [hl,Bool.eq_iff_iff,List.all_eq_true,List.all_eq_true]
      constructor
      · intro w b hbm
        obtain ⟨i,hi,rfl⟩:=List.mem_iff_getElem.mp hbm
        have:=w i (List.mem_range.mpr hi)
        rw [List.getD_eq_getElem?_getD,List.getElem?_eq_getElem hi] at this
        exact this
      · intro w i hi
        have hi:=List.mem_range.mp hi
        rw [List.getD_eq_getElem?_getD,List.getElem?_eq_getElem hi]
        exact w _ (List.getElem_mem hi)
    rw [e]
    refine ⟨.bl (bs.all id),H,?_,rfl,q⟩
    exact I.kept (t':=tk) fun b o q2=>hk b o (by
      intro z
      have:b=s.heap.objs.size:=by simpa using z
      exact absurd (Heap.lt_size q2) (by rw [this];exact Nat.lt_irrefl _)) (Heap.get?_push_of_some _ q2)
theorem rAll_ap {K:PySem.W.Frag}{xs:List V}{H:Hp}{Q:VK}:rAll K xs H Q=∃ (p:Addr) (bs:List Bool),xs=[.ref p]∧SqL K H p (bs.map V.bl)∧Q (.bl (bs.all id)) H:=rfl
end
theorem str_mk {K:PySem.W.Frag}{h:Heap}{mg:Str→Option Value}{x:Str}{z:Str}{t:Tok}(X:K.In h)(G:h.Ns mainGlobals mg)(a:PySem.W.nsIn K mainGlobals x=some (some (.str z t))):∃ t,mg x=some (.str z t):=⟨t,PySem.W.mg_of X G a⟩
theorem tup_mk {K:PySem.W.Frag}{h:Heap}{mg:Str→Option Value}{x:Str}{a:Addr}{c:Value}{d:Option Addr}{its:Array Value}{n:Nat}{sl:Array (Option Value)}{xs:List V}(X:K.In h)(G:h.Ns mainGlobals mg)(e:PySem.W.nsIn K mainGlobals x=some (some (.ref a)))
    (l:K.lookup a=some ⟨c,d,.seq its n,sl⟩) (hc:c=.type "tuple") (hz:its.size≤sizeLine) (r:Vals xs its.toList):∃ a,mg x=some (.ref a)∧∀ H,SqT K H a xs :=
  ⟨a,PySem.W.mg_of X G e,fun H=>.inr ⟨_,its,n,l,hc,rfl,hz,r⟩⟩
theorem in_one (c:Nat)(x:Str):(!(Builtin.Str.occurrences x ⟨#[c]⟩ 0 x.length 1).isEmpty)=decide (c∈x.cps.toList):=PySem.StrLaws.found_one x c
end L2
namespace L2
open PySem PySem.Spec PyProof.Rows
section
variable {X:Cx}
def rDictOf:List V→Hp→VK→Prop:=fun xs H Q=>∃ (a:Addr) (kvs:List (Key × V)),xs=[.ref a]∧H a=some (.dK kvs)∧∀ p,H p=none→Q (.ref p) (upd H p (.dK kvs))
theorem rDictOf_ap {xs:List V}{H:Hp}{Q:VK}:rDictOf xs H Q=∃ (a:Addr) (kvs:List (Key × V)),xs=[.ref a]∧H a=some (.dK kvs)∧∀ p,H p=none→Q (.ref p) (upd H p (.dK kvs)):=rfl
theorem call_dictOf:CallR X (.type "dict") rDictOf:=by
  intro pins s σ H xs us Q I r h
  obtain ⟨a,kvs,rfl,e,q⟩:=h
  obtain ⟨u,rfl,ru⟩:=r.one
  cases (show u=Value.ref a from ru)
  obtain ⟨z,hd,vs,rel,dd⟩:=dk_of I.hok e
  have big:(s.heap.objs.size==sysModules)=false:=by
    have:=(dk_empty (P:=X.prog) (w:=X.w) (H:=H) s.heap I.big).2.1
    exact this
  refine kt_call_dict hd dd (by rw [← rel.length];exact z) fun h' d' sb=>⟨.ref s.heap.objs.size,_,I.laid (a:=s.heap.objs.size) (o:=.dK kvs) (t':=s.toks) (fun b o q2=>(sb.2 b (Nat.ne_of_lt (Heap.lt_size q2))).trans (Heap.get?_push_of_some _ q2)) (Nat.le_refl _) (dk_new z big rel d'),rfl,q _ (I.hok.fresh (Nat.le_refl _))⟩
theorem valV_nd:∀ {kvs:List (Key × V)} {k:Key} {v:V},(kvs.map (·.1)).Nodup→(k,v)∈kvs→valV kvs k=some v
  | [],_,_,_,h=>nomatch h
  | (k',v')::r,k,v,nd,h=>by
    obtain ⟨n1,n2⟩:=List.nodup_cons.mp nd
    unfold valV
    rw [List.find?_cons]
    rcases List.mem_cons.mp h with e | e
    · cases e
      simp
    · have ne:k'≠k:=fun z=>n1 (z ▸ List.mem_map.mpr ⟨_,e,rfl⟩)
      simp only [ne,decide_false]
      exact valV_nd n2 e
theorem hits_same {A:Around}{s:Shared}{kvs:List (Key × V)}{vb:List (Key × Value)}(nd:(kvs.map (·.1)).Nodup)(hi:∀ kv∈kvs,∃ i,kv.2=.int i)(rb:KV kvs vb):∀ {ks:List (Key × V)} {va:List (Key × Value)},(∀ x∈ks,x∈kvs)→KV ks va→PySem.W.KeqHits A s vb va true
  | [],_,_,.nil=>.nil
  | (k,v)::r,(k',v')::q,hs,.cons h t=>by
    obtain ⟨ek,rv⟩:=h
    have ek:k'=k:=by first | exact ek | exact ek.symm
    subst ek
    obtain ⟨i,e⟩:=hi _ (hs _ (.head _))
    have e:v=.int i:=e
    subst e
    have y:=rb.val k'
    rw [valV_nd nd (hs _ (.head _))] at y
    cases z:valueAt vb k' with
    | none=>rw [z] at y;exact absurd y (by intro q;cases q)
    | some u =>
      rw [z] at y
      obtain ⟨t1,rfl⟩:=(show RelV (.int i) v' from rv)
      obtain ⟨t2,rfl⟩:=(show RelV (.int i) u from y)
      have eq:=PySem.W.keq_flat (A:=A) (s:=s) (v:=.int i t1) (y:=.int i t2) (d:=.int i) (e:=.int i) (fun _=>.int ..) (fun _=>.int ..)
      have h3:=PySem.W.KeqHits.hit (A:=A) (s:=s) z eq (hits_same nd hi rb (fun x hx=>hs x (.tail _ hx)) t)
      have e1:(PyData.eqv (.int i) (.int i)&&true)=true:=by simp [PyData.eqv]
      rw [e1] at h3
      exact h3
end
end L2
namespace L2
open PySem PySem.Spec PyProof.Rows
section
variable {prog:Program}{w:World}{A:Around}{R:Result→Shared→Prop}{I S:Addr}{fp wr:List Addr}{n:Nat}{P:Nat→Value→Prop}{St:Nat→Heap→Prop}
end
theorem boot_dict:bootBuiltins "dict"=some (.type "dict"):=by decide +kernel
section
variable {prog:Program}{w:World}{A:Around}{E:Value→Shared→Prop}{s:Shared}
end
section
variable {X:Cx}{x:Str}{p pos:Pos}{e:Expr}{es:List Expr}{kws:List Keyword}{ks:List Str}{t tk:TA}{id:String}{r:List V→List V→Hp→VK→Prop}
def tCBK (r:List V→List V→Hp→VK→Prop)(t tk:TA):TE:=fun σ H Q=>t σ H fun vs H1=>tk σ H1 fun zs H2=>r vs zs H2 Q
def rMaxD (K:PySem.W.Frag):List V→List V→Hp→VK→Prop:=fun xs zs H Q=>∃ (p:Addr) (ns:List Int) (d:Int),xs=[.ref p]∧zs=[.int d]∧SqL K H p (ns.map V.int)∧Q (.int (ns.max?.getD d)) H
end
end L2
namespace L2
open PySem PySem.Spec PyProof.Rows
def del (H:Hp)(p:Addr):Hp:=fun b=>if b=p then none else H b
theorem del_same {H:Hp}{p:Addr}:del H p p=none:=by unfold del;rw [if_pos rfl]
theorem del_ne {H:Hp}{p b:Addr}(h:b≠p):del H p b=H b:=by unfold del;rw [if_neg h]
theorem del_some {H:Hp}{p b:Addr}{o:HO}(h:del H p b=some o):b≠p∧H b=some o:=by
  have n:b≠p:=fun z=>by rw [z,del_same] at h;cases h
  rw [del_ne n] at h
  exact ⟨n,h⟩
section
variable {X:Cx}{pins:List (Addr × Obj)}{σ:St}{H H':Hp}{s:Shared}{p:Addr}{xs:List V}
end
section
variable {X:Cx}{P:Program}{w:World}{K:PySem.W.Frag}{mg:Str→Option Value}{base:Heap}{o e:Expr}{es:List Expr}{m:Str}{ta:TE}{t:TA}{apos pos:Pos}
end
end L2
namespace L2
open PySem PySem.Spec PyProof.Rows
structure MkN (K:PySem.W.Frag)(C:Addr):Prop where
  makes:PySem.W.makesIn K C=true
  init:PySem.W.findIn K (.ref C) "__init__"=some (some (.builtin "object.__init__"))
  kp:PySem.W.keepIn K (.ref C)=true
section
variable {X:Cx}{C:Addr}{x:Str}{p pos:Pos}
end
def New (H H':Hp):Hp:=fun a=>match H a with | none=>H' a | some _=>none
theorem New.of {H H':Hp}{a:Addr}{o:HO}(h:H a=none)(e:H' a=some o):New H H' a=some o:=by
  unfold New
  rw [h]
  exact e
theorem New.some {H H':Hp}{a:Addr}{o:HO}(h:New H H' a=some o):H a=none∧H' a=some o:=by
  unfold New at h
  split at h
  · rename_i e
    exact ⟨e,h⟩
  · cases h
section
variable {K:PySem.W.Frag}{a:Addr}{xs:List V}{m:Nat}{caps:List Nat}{tt:TT}{te:TE}{σ:St}{H1:Hp}{Q:VK}
theorem compA (Rl:Nat→V→Hp→Prop)(mono:∀ i y H H',Same H H'→Rl i y H→Rl i y H')(hS:SqL K H1 a xs)(hn:xs.length≤1000000)
    (he:∀ i x H2 (R:VK),xs[i]?=some x→Same H1 H2→(∀ y H3,Same H2 H3→Rl i y (New H2 H3)→R y H3)→te ((capSt m caps σ).set 0 (some x)) H2 R)
    (hq:∀ D ys H2,H1 D=none→Same H1 H2→H2 D=some (.lst ys)→ys.length=xs.length→(∀ j y,ys[j]?=some y→Rl j y (del (New H1 H2) D))→Q (.ref D) H2):CompJ (Itl K a) m caps (gName 0) tNoTest te σ H1 Q:=by
  refine compG (n:=xs.length) (fun D i ys H2=>i≤xs.length∧Same H1 H2∧H2 D=some (.lst ys)∧ys.length=i∧∀ j y,ys[j]?=some y→Rl j y (del (New H1 H2) D)) (fun D hD=>⟨Nat.zero_le _,Same.new hD,upd_same,rfl,fun j y h=>by cases h⟩) (fun D i ys H2 h=>h.1)
    (fun D ys H2 hD h=>⟨xs,h.2.1.seq hS,Nat.le_refl _⟩) (fun D i ys H2 hD hi h=>⟨xs,_,h.2.1.seq hS,List.getElem?_eq_getElem hi⟩) ?_ (fun D ys H2 hD h=>hq D ys H2 hD h.2.1 h.2.2.1 h.2.2.2.1 h.2.2.2.2)
  rintro D i ys H2 x H3 hD hi ⟨_,s2,h2,rfl,h3⟩ ⟨rfl,y⟩
  have hx:=y xs (s2.seq hS)
  rw [gName_ap,tNoTest_ap]
  rw [if_pos rfl]
  refine he _ x H3 _ hx s2 fun z H4 s4 rz=>compYes hn hi (Nat.le_refl _) (s4 _ _ h2) ⟨hi,(s2.trans s4).put hD,upd_same,by rw [List.length_append];rfl,fun j y hj=>?_⟩
  by_cases hl:j<ys.length
  · rw [List.getElem?_append_left hl] at hj
    refine mono _ _ _ _ (fun b o hb=>?_) (h3 j y hj)
    obtain ⟨n1,e1⟩:=del_some hb
    obtain ⟨e1,e2⟩:=New.some e1
    rw [del_ne n1]
    refine New.of e1 ?_
    rw [upd_ne n1]
    exact s4 _ _ e2
  · rw [List.getElem?_append_right (by omega)] at hj
    have e0:j-ys.length=0:=by
      have:=(List.getElem?_eq_some_iff.mp hj).1
      simp at this
      omega
    rw [e0] at hj
    cases hj
    have e1:j=ys.length:=by omega
    subst e1
    refine mono _ _ _ _ (fun b o hb=>?_) rz
    obtain ⟨e1,e2⟩:=New.some hb
    have n1:b≠D:=fun z=>by rw [z,h2] at e1;cases e1
    rw [del_ne n1]
    refine New.of ?_ ?_
    · cases e:H1 b with
      | none=>rfl
      | some o=>rw [s2 _ _ e] at e1;cases e1
    · rw [upd_ne n1]
      exact e2
end
end L2
namespace L2
open PySem PySem.Spec PyProof.Rows
section
variable {X:Cx}{pins:List (Addr × Obj)}{σ:St}{H:Hp}{s:Shared}{p:Addr}{kvs:List (Key × V)}{o:Obj}
theorem Inv.swap {u u':HO}(I:Inv X pins σ H s)(hp:H p=some u)(ok:ObjOk X.prog X.w H s.heap p u')(n1:∀ xs,u≠.tup xs)(n2:∀ x,u≠.own x)(n3:∀ ps,u≠.tbl ps)(nf:∀ o v,X.H₀ p≠some (.frz o v)):Inv X pins σ (upd H p u') s:=by
  have np:∀ b o,H b=some o→o≠u→upd H p u' b=some o:=fun b o e n=>by
    rw [upd_ne fun z=>by rw [z,hp] at e;cases e;exact n rfl]
    exact e
  have nn:∀ b,H b=none→upd H p u' b=none:=fun b e=>by
    rw [upd_ne fun z=>by rw [z,hp] at e;cases e]
    exact e
  refine ⟨I.ok,I.os,I.bare,⟨I.base.keep,I.base.slot,fun b o e n x=>nn b (I.base.free b o e n x),I.base.there,fun b ys e=>np b _ (I.base.tups b ys e) (n1 _).symm,fun b o v e=>?_,fun b ps e=>?_⟩,I.loc,I.cell,nn _ I.free,fun x c h=>nn _ (I.freeC x c h),fun q hq=>?_,fun a o e=>?_,I.len⟩
  · have z:=I.base.frzs b o v e
    rw [upd_ne fun z=>by rw [z] at e;exact nf _ _ e]
    exact z
  · obtain ⟨more,e⟩:=I.base.tbls b ps e
    exact ⟨more,np b _ e (n3 _).symm⟩
  · obtain ⟨e1,e2,r⟩:=I.pin q hq
    exact ⟨e1,nn _ e2,r⟩
  · by_cases z:a=p
    · subst z
      rw [upd_same] at e
      cases e
      exact ok.stay (fun _ _ _ q=>q) (fun b q=>np b _ q (n2 _).symm) fun b ys q=>np b _ q (n1 _).symm
    · rw [upd_ne z] at e
      exact (I.hok a o e).stay (fun _ _ _ q=>q) (fun b q=>np b _ q (n2 _).symm) fun b ys q=>np b _ q (n1 _).symm
theorem Inv.nofrz (I:Inv X pins σ H s)(hp:H p=some (.dK kvs)):∀ o v,X.H₀ p≠some (.frz o v):=fun o v e=>by
  have:=I.base.frzs p o v e
  rw [hp] at this
  cases this
theorem Inv.freeze (I:Inv X pins σ H s)(hp:H p=some (.dK kvs))(ho:s.heap.get? p=some o):Inv X pins σ (upd H p (.frz o (.dK kvs))) s :=
  I.swap hp ⟨ho,I.hok _ _ hp⟩ (fun _ z=>by cases z) (fun _ z=>by cases z) (fun _ z=>by cases z) (I.nofrz hp)
theorem Inv.thaw (I:Inv X pins σ H s)(hp:H p=some (.frz o (.dK kvs)))(nf:∀ o v,X.H₀ p≠some (.frz o v)):Inv X pins σ (upd H p (.dK kvs)) s :=
  I.swap hp (I.hok _ _ hp).2 (fun _ z=>by cases z) (fun _ z=>by cases z) (fun _ z=>by cases z) nf
end
def sThaw (t:TS):TS:=fun D σ H=>∃ p kvs,H p=some (.dK kvs)∧t { nx:=fun σ' H'=>∃ o,H' p=some (.frz o (.dK kvs))∧D.nx σ' (upd H' p (.dK kvs)),rt:=fun v H'=>∃ o,H' p=some (.frz o (.dK kvs))∧D.rt v (upd H' p (.dK kvs)),bk:=fun σ' H'=>∃ o,H' p=some (.frz o (.dK kvs))∧D.bk σ' (upd H' p (.dK kvs)),ct:=fun σ' H'=>∃ o,H' p=some (.frz o (.dK kvs))∧D.ct σ' (upd H' p (.dK kvs)) } σ H
theorem ps_thaw {X:Cx}{st:Stmt}{t:TS}(h:PS X st t):PS X st (sThaw t):=by
  intro pins s σ H D I q
  obtain ⟨p,kvs,hp,q⟩:=q
  have nf:=I.nofrz hp
  refine thn (h pins s σ H _ I q) fun f s1 hq=>?_
  cases f with
  | next =>
    obtain ⟨σ',H1,I1,o,h1,q1⟩:=hq
    exact ⟨σ',_,I1.thaw h1 nf,q1⟩
  | brk =>
    obtain ⟨σ',H1,I1,o,h1,q1⟩:=hq
    exact ⟨σ',_,I1.thaw h1 nf,q1⟩
  | cont =>
    obtain ⟨σ',H1,I1,o,h1,q1⟩:=hq
    exact ⟨σ',_,I1.thaw h1 nf,q1⟩
  | ret u =>
    obtain ⟨v,σ',H1,I1,r1,o,h1,q1⟩:=hq
    exact ⟨v,σ',_,I1.thaw h1 nf,r1,q1⟩
def Itd (a:Addr)(o:Obj)(kvs:List (Key × V)):It :=
  ⟨fun i H=>H a=some (.frz o (.dK kvs))∧i<kvs.length,fun i H x H'=>H'=H∧∃ kv,kvs[i]?=some kv∧x=kV kv.1,fun i H=>H a=some (.frz o (.dK kvs))∧kvs.length≤i⟩
theorem key_rel {k:Key}{u:Value}(h:keyIs k u=true):RelV (kV k) u:=by
  rcases keyIs_shape h with ⟨i,t,rfl,rfl⟩ | ⟨x,t,rfl,rfl⟩
  · exact ⟨t,rfl⟩
  · exact ⟨t,rfl⟩
theorem paired_at {κ:Type}:∀ {kvs:List (κ × V)} {vs:List (κ × Value)} {i:Nat} {k:κ} {v:V},KV kvs vs→kvs[i]?=some (k,v)→∃ v',vs[i]?=some (k,v')
  | _,_,0,_,_,.cons q _,h=>by
    cases h
    obtain ⟨q1,_⟩:=q
    exact ⟨_,congrArg some (Prod.ext q1.symm rfl)⟩
  | _,_,i+1,_,_,.cons _ r,h=>paired_at (i:=i) r h
theorem turn_dict {P:Program}{w:World}{K:PySem.W.Frag}{tg:Expr}{o:Obj}{es:Array DictEntry}{ep:Nat}{kvs:List (Key × V)}(a it:Addr)(ho:o.data=.dict es ep):Turn P w K tg (Itd a o kvs) [it] it (fun i h=>h.IsKeyIter it a i kvs.length ep) where
  mem:=by simp
  obj:=fun i h st b hb=>by
    have e:b=it:=by simpa using hb
    subst e
    obtain ⟨o,e,c,d⟩:=st
    exact ⟨o,e,fun v z=>by rw [d] at z;cases z⟩
  keep:=fun i h h' st k=>st.at fun o e=>k it (by simp) o e
  item:=by
    intro X hP hw hK hc i pins s σ H E I hf st hg
    subst hP hw hK
    obtain ⟨hq,hi⟩:=hg
    obtain ⟨e1,_,_,vs,rel,o',es',ep',e2,ex,dt,ko,pr,nd⟩:=(show ObjOk X.prog X.w H s.heap a (.frz o (.dK kvs)) from I.hok _ _ hq)
    cases e1.symm.trans e2
    cases ho.symm.trans dt
    have gk:kvs[i]?=some (kvs[i].1,kvs[i].2):=List.getElem?_eq_getElem hi
    obtain ⟨v',gv⟩:=paired_at rel gk
    have ll:kvs.length=vs.length:=Paired.length rel
    rw [ll] at st
    obtain ⟨f0,f1,f2,f3,f4,f5⟩:=hf it (by simp)
    refine wpAny_pyNext_dict_item (knd:=mixKind X.prog X.w) st ⟨o,es,e1,ex,dt,ko,pr,nd⟩ gv fun key h' kis st' sb=>?_
    have I1:Inv X pins σ H { s with heap:=h' }:=I.turned (t':=s.toks) (fun b o hb e=>(sb.2 b hb).trans e) f0 f1 f3 f4 f5
    rw [← ll] at st'
    obtain ⟨oi,ei,ci,di⟩:=id st'
    exact ⟨key,rfl,go_of (s:={ s with heap:=h' }) ei ci di (by decide) ⟨kV kvs[i].1,H,I1,key_rel kis,⟨rfl,_,gk,rfl⟩,st',fun b hb=>(hf b hb).1⟩⟩
  done:=by
    intro X hP hw hK hc i pins s σ H E I hf st hg
    subst hP hw hK
    obtain ⟨hq,hi⟩:=hg
    obtain ⟨e1,_,_,vs,rel,o',es',ep',e2,ex,dt,ko,pr,nd⟩:=(show ObjOk X.prog X.w H s.heap a (.frz o (.dK kvs)) from I.hok _ _ hq)
    cases e1.symm.trans e2
    cases ho.symm.trans dt
    have ll:kvs.length=vs.length:=Paired.length rel
    rw [ll] at st
    obtain ⟨f0,f1,f2,f3,f4,f5⟩:=hf it (by simp)
    exact wpAny_pyNext_dict_end (knd:=mixKind X.prog X.w) (I.ok.hd hc) st ⟨o,es,e1,ex,dt,ko,pr,nd⟩ (List.getElem?_eq_none (by omega)) fun h' eb=>⟨rfl,I.turned (t':=s.toks) (fun b o hb e=>eb b o hb e) f0 f1 f3 f4 f5⟩
  self:=fun _ _ _ _ _ st h=>wpAny_pyIter_keyiter st h
def iDict (tl:TE):TI:=fun σ H R=>tl σ H fun x H1=>∃ a kvs,x=.ref a∧H1 a=some (.dK kvs)∧∀ o,R (Itd a o kvs) (upd H1 a (.frz o (.dK kvs)))
theorem iDict_ap {tl:TE}{σ:St}{H:Hp}{R:It→Hp→Prop}:iDict tl σ H R=tl σ H fun x H1=>∃ a kvs,x=.ref a∧H1 a=some (.dK kvs)∧∀ o,R (Itd a o kvs) (upd H1 a (.frz o (.dK kvs))):=rfl
theorem pi_dict {X:Cx}{tg l:Expr}{tl:TE}(hl:PE X l tl):PI X tg l (iDict tl):=by
  intro pins s σ H R I h
  refine thn (hl pins s σ H _ I h) fun v s1 ⟨x,H1,I1,r1,q1⟩=>?_
  obtain ⟨a,kvs,e,hq,q⟩:=q1
  subst e
  cases r1
  obtain ⟨_,hs,vs,rel,o,es,ep,e2,ex,dt,ko,pr,nd⟩:=(show ObjOk X.prog X.w H1 s1.heap a (.dK kvs) from I1.hok _ _ hq)
  have ll:kvs.length=vs.length:=Paired.length rel
  refine wpAny_pyIter_dict (knd:=mixKind X.prog X.w) hs ⟨o,es,e2,ex,dt,ko,pr,nd⟩ ?_
  have I2:=I1.freeze hq e2
  have hn:upd H1 a (.frz o (.dK kvs)) s1.heap.objs.size=none:=I2.hok.fresh (Nat.le_refl _)
  refine ⟨s1.heap.objs.size,[s1.heap.objs.size],_,_,_,rfl,I2.kept (t':=s1.toks) fun b o e=>Heap.get?_push_of_some _ e,turn_dict a _ dt,⟨_,Heap.get?_push_size _ rfl,rfl,?_⟩,fun b hb=>?_,q o⟩
  · rw [ll]
    rfl
  have e:b=s1.heap.objs.size:=by simpa using hb
  subst e
  exact I2.fpOk (Nat.le_refl _) hn
end L2
namespace L2
open PySem PySem.Spec PyProof.Rows
end L2
namespace L2
open PySem PySem.Spec PyProof.Rows
section
variable {P:Program}{w:World}{l b p:Addr}{us vs:Array Value}{n m:Nat}{d1 d2:Option Addr}{z1 z2:Array (Option Value)}{s:Shared}{A:Around}{R:Result→Shared→Prop}
open MeetsSeq MeetsSeq2 MeetsSeq3 in
def EqW (P:Program)(w:World)(A:Around)(s:Shared)(u v:Value):Prop:=∀ (E:Value→Shared→Prop) (Q:Bool→Shared→Prop),Q true s→wpAny (model P w) A (eqBool u v) Q E s
abbrev FinW (P:Program)(w:World)(A:Around)(R:Result→Shared→Prop):Fin→Shared→Prop:=fun x s'=>match x with | .done f=>R (.ok f) s' | .again q=>q.quiet=true∧codeAny (model P w) A q R s'
abbrev LsAt (s:Shared)(l:Addr)(us:Array Value)(n:Nat)(d1:Option Addr)(z1:Array (Option Value)):Prop:=s.heap.get? l=some { cls:=.type "list",dict:=d1,data:=.seq us n,slots:=z1 }
abbrev TpAt (s:Shared)(l:Addr)(us:Array Value)(n:Nat)(d1:Option Addr)(z1:Array (Option Value)):Prop:=s.heap.get? l=some { cls:=.type "tuple",dict:=d1,data:=.seq us n,slots:=z1 }
open MeetsSeq MeetsSeq2 MeetsSeq3 AutoSeq1 in
theorem loopW (hs:us.size=vs.size){c:Int}{t:Bool}(hc:(c=2∧t=true)∨(c=3∧t=false)):∀ (k i:Nat),us.size-i=k→∀ {s:Shared},LsAt s l us n d1 z1→LsAt s b vs m d2 z2→(∀ (j:Nat) (h1:j<us.size) (h2:j<vs.size),EqW P w A.in1 s us[j] vs[j])→R (.ok (.ret (.bool t))) s →
    wpAny (model P w) A.in1 (Builtin.«list.__eq__.loop» ⟨[.ref l,.ref b,rawInt i,rawInt c],[]⟩) (FinW P w A R) (fun e s'=>R (.error e) s') s:=by
  intro k
  induction k with
  | zero =>
    rintro i hk ⟨hp,g,d,tk,oz⟩ hL hB he h
    have q1:us[((i:Nat):Int).toNat]?=none:=by simp;omega
    have q2:vs[((i:Nat):Int).toNat]?=none:=by simp;omega
    rcases hc with ⟨rfl,rfl⟩ | ⟨rfl,rfl⟩
    · wp_walk using wpAny_loadPart' hL,wpAny_loadPart' hB
      rw [q1,q2]
      wp_walk using wpAny_loadPart' hL,wpAny_loadPart' hB
      show R (.ok (.ret (.bool (us.size==vs.size)))) _
      rw [hs]
      simpa using h
    · wp_walk using wpAny_loadPart' hL,wpAny_loadPart' hB
      rw [q1,q2]
      wp_walk using wpAny_loadPart' hL,wpAny_loadPart' hB
      show R (.ok (.ret (.bool (us.size != vs.size)))) _
      rw [hs]
      simpa using h
  | succ k ih =>
    rintro i hk ⟨hp,g,d,tk,oz⟩ hL hB he h
    have l1:i<us.size:=by omega
    have l2:i<vs.size:=by omega
    have q1:us[((i:Nat):Int).toNat]?=some us[i]:=by simp [l1]
    have q2:vs[((i:Nat):Int).toNat]?=some vs[i]:=by simp [l2]
    have nx:((i:Int)+1)=((i+1:Nat):Int):=by push_cast;rfl
    have hc':=hc
    rcases hc with ⟨rfl,rfl⟩ | ⟨rfl,rfl⟩ <;>
    · wp_walk using wpAny_loadPart' hL,wpAny_loadPart' hB
      rw [q1,q2]
      refine wpAny_bind (he i l1 l2 _ _ ?_)
      wp_walk
      rw [nx]
      refine ⟨plainId_quiet plain_eq_loop _,codeAny_builtin entry_eq_loop ?_⟩
      rw [Around.under_plainId plain_eq_loop]
      exact ih (i+1) (by omega) hL hB he h
open MeetsSeq MeetsSeq2 MeetsSeq3 AutoSeq1 in
theorem lists_eqW (hs:us.size=vs.size)(hL:LsAt s l us n d1 z1)(hB:LsAt s b vs m d2 z2)(he:∀ (j:Nat) (h1:j<us.size) (h2:j<vs.size),EqW P w A.in1 s us[j] vs[j])(h:R (.ok (.ret (.bool true))) s) :
    wpAny (model P w) A.in1 (Builtin.«list.__eq__» ⟨[.ref l,.ref b],[]⟩) (FinW P w A R) (fun e s'=>R (.error e) s') s:=by
  obtain ⟨hp,g,d,tk,oz⟩:=s
  have fL:=AutoSeq1.sub_list_list
  have hne:¬ (us.size != vs.size)=true:=by simp [hs]
  wp_walk using wpAny_loadPart' hL,wpAny_loadPart' hB
  refine ⟨plainId_quiet plain_eq_loop _,codeAny_builtin entry_eq_loop ?_⟩
  rw [Around.under_plainId plain_eq_loop]
  exact loopW hs (.inl ⟨rfl,rfl⟩) _ 0 rfl hL hB he h
open MeetsSeq MeetsSeq2 MeetsSeq3 AutoSeq1 in
theorem lists_neW (hs:us.size=vs.size)(hL:LsAt s l us n d1 z1)(hB:LsAt s b vs m d2 z2)(he:∀ (j:Nat) (h1:j<us.size) (h2:j<vs.size),EqW P w A.in1 s us[j] vs[j])(h:R (.ok (.ret (.bool false))) s) :
    wpAny (model P w) A.in1 (Builtin.«list.__ne__» ⟨[.ref l,.ref b],[]⟩) (FinW P w A R) (fun e s'=>R (.error e) s') s:=by
  obtain ⟨hp,g,d,tk,oz⟩:=s
  have fL:=AutoSeq1.sub_list_list
  have hne:¬ (us.size != vs.size)=true:=by simp [hs]
  wp_walk using wpAny_loadPart' hL,wpAny_loadPart' hB
  refine ⟨plainId_quiet plain_eq_loop _,codeAny_builtin entry_eq_loop ?_⟩
  rw [Around.under_plainId plain_eq_loop]
  exact loopW hs (.inr ⟨rfl,rfl⟩) _ 0 rfl hL hB he h
open MeetsSeq MeetsSeq2 MeetsSeq3 AutoSeq1 in
theorem tups_eqW (hs:us.size=vs.size) (hL:TpAt s l us n d1 z1) (hB:TpAt s b vs m d2 z2) (he:∀ (j:Nat) (h1:j<us.size) (h2:j<vs.size),EqW P w A.in1 s us[j] vs[j]) (h:R (.ok (.ret (.bool true))) s) :
    wpAny (model P w) A.in1 (Builtin.«tuple.__eq__» ⟨[.ref l,.ref b],[]⟩) (FinW P w A R) (fun e s'=>R (.error e) s') s:=by
  refine wpAny_mono (Q:=fun fin s'=>∃ v,fin=.done (.ret v)∧R (.ok (.ret v)) s') ?_ (fun fin s' h'=>by obtain ⟨v,rfl,hv⟩:=h';exact hv) fun _ _ x=>x
  obtain ⟨hp,g,d,tk,oz⟩:=s
  have fT:=AutoSeq1.sub_tuple_tuple
  have zl:(us.toList.zip vs.toList).length=us.size:=by simp [hs]
  wp_walk using wpAny_loadPart' hL,wpAny_loadPart' hB,wpAny_forIn_list _ (fun rest b s'=>b.1=none∧s'=⟨hp,g,d,tk,oz⟩∧∃ i,rest=(us.toList.zip vs.toList).drop i) _
  case turn =>
    rintro ⟨y,x⟩ rest b s' ⟨hB',rfl,i,hz⟩
    have lt:i<(us.toList.zip vs.toList).length:=by
      rcases Nat.lt_or_ge i (us.toList.zip vs.toList).length with z | z
      · exact z
      · rw [List.drop_of_length_le z] at hz
        cases hz
    rw [List.drop_eq_getElem_cons lt] at hz
    injection hz with e1 e2
    have l1:i<us.size:=by omega
    have l2:i<vs.size:=by omega
    have a1:y=us[i]:=by
      have:=congrArg Prod.fst e1
      simpa using this
    have a2:x=vs[i]:=by
      have:=congrArg Prod.snd e1
      simpa using this
    subst a1 a2
    refine wpAny_bind (he i l1 l2 _ _ ?_)
    wp_walk
    exact ⟨rfl,rfl,i+1,e2⟩
  case fin =>
    rintro ⟨b1,b2⟩ s' ⟨hB',rfl,i,hz⟩
    simp only at hB'
    subst hB'
    wp_walk
    exact ⟨_,rfl,by simpa [Builtin.Tuple.tupleCompareSizes,hs] using h⟩
  case h=>exact ⟨rfl,rfl,0,rfl⟩
theorem EqW.refs {u v:Addr}(hne:u≠v)(h:∀ (E:Value→Shared→Prop) (Q:Value→Shared→Prop),Q (.bool true) s→wpAny (model P w) A (richCompare .Eq (.ref u) (.ref v)) Q E s):EqW P w A s (.ref u) (.ref v):=fun E Q hq=>by
  unfold eqBool
  refine wpAny_holding ?_
  refine wpAny_ite_split (fun z=>absurd (by have e:=eq_of_beq z;injection e) hne) fun _=>?_
  exact wpAny_bind (h E _ (wpAny_truthy_bool hq))
theorem EqW.of {u v:Value}(h:SeqAt.EqAt A s u v true):EqW P w A s u v:=fun E Q hq=>h P w E Q hq
theorem EqW.lists {u v:Addr}(hne:u≠v)(hl:s.heap.IsList u us)(hb:s.heap.IsList v vs)(hs:us.size=vs.size)(hu:A.units<cLine)(he:∀ (j:Nat) (h1:j<us.size) (h2:j<vs.size),EqW P w A.in1 s us[j] vs[j]):EqW P w A s (.ref u) (.ref v):=by
  refine .refs hne fun E Q q=>?_
  obtain ⟨⟨c1,d1,e1,z1⟩,ho,hc,n,hd⟩:=id hl
  obtain ⟨⟨c2,d2,e2,z2⟩,ho2,hc2,m,hd2⟩:=id hb
  simp only at hc hd hc2 hd2
  subst hc hd hc2 hd2
  have hT:s.TypeIs (.ref u) "list":=⟨_,ho,rfl⟩
  exact wpAny_richCompare_same_room (op:=.Eq) hT ⟨_,ho2,rfl⟩ F.slot_list_eq (wpAny_call (codeAny_call_builtin F.slot_list_eq.plain F.entry_list_eq (F.slot_list_eq.check _ _ _ _ _ _ _ _ hT (F.args_list_eq_2 _ _) (lists_eqW (R:=wants (fun v s1=>v≠.notImplemented∧Q v s1) E) hs ho ho2 he ⟨(fun x=>nomatch x),q⟩)))) hu
theorem EqW.tups {u v:Addr}(hne:u≠v)(hl:s.heap.IsTuple u us)(hb:s.heap.IsTuple v vs)(hs:us.size=vs.size)(hu:A.units<cLine)(he:∀ (j:Nat) (h1:j<us.size) (h2:j<vs.size),EqW P w A.in1 s us[j] vs[j]):EqW P w A s (.ref u) (.ref v):=by
  refine .refs hne fun E Q q=>?_
  obtain ⟨⟨c1,d1,e1,z1⟩,ho,hc,n,hd⟩:=id hl
  obtain ⟨⟨c2,d2,e2,z2⟩,ho2,hc2,m,hd2⟩:=id hb
  simp only at hc hd hc2 hd2
  subst hc hd hc2 hd2
  have hT:s.TypeIs (.ref u) "tuple":=⟨_,ho,rfl⟩
  exact wpAny_richCompare_same_room (op:=.Eq) hT ⟨_,ho2,rfl⟩ F.slot_tuple_eq (wpAny_call (codeAny_call_builtin F.slot_tuple_eq.plain F.entry_tuple_eq (F.slot_tuple_eq.check _ _ _ _ _ _ _ _ hT (F.args_tuple_eq_2 _ _) (tups_eqW (R:=wants (fun v s1=>v≠.notImplemented∧Q v s1) E) hs ho ho2 he ⟨(fun x=>nomatch x),q⟩)))) hu
theorem neW_lists {u v:Addr}{E Q:Value→Shared→Prop}(hl:s.heap.IsList u us)(hb:s.heap.IsList v vs)(hs:us.size=vs.size)(hu:A.units<cLine)(he:∀ (j:Nat) (h1:j<us.size) (h2:j<vs.size),EqW P w A.in1 s us[j] vs[j])(q:Q (.bool false) s):wpAny (model P w) A (compareOp .NotEq (.ref u) (.ref v)) Q E s:=by
  obtain ⟨⟨c1,d1,e1,z1⟩,ho,hc,n,hd⟩:=id hl
  obtain ⟨⟨c2,d2,e2,z2⟩,ho2,hc2,m,hd2⟩:=id hb
  simp only at hc hd hc2 hd2
  subst hc hd hc2 hd2
  have hT:s.TypeIs (.ref u) "list":=⟨_,ho,rfl⟩
  exact wpAny_richCompare_same_room (op:=.NotEq) hT ⟨_,ho2,rfl⟩ F.slot_list_ne (wpAny_call (codeAny_call_builtin F.slot_list_ne.plain F.entry_list_ne (F.slot_list_ne.check _ _ _ _ _ _ _ _ hT (F.args_list_ne_2 _ _) (lists_neW (R:=wants (fun v s1=>v≠.notImplemented∧Q v s1) E) hs ho ho2 he ⟨(fun x=>nomatch x),q⟩)))) hu
end
mutual
inductive Twn (K:PySem.W.Frag) (H:Hp):Nat→V→V→Prop
  | int {n:Nat} (i:Int):Twn K H n (.int i) (.int i)
  | str {n:Nat} (x:Str):Twn K H n (.str x) (.str x)
  | lst {n:Nat} {a b:Addr} {xs ys:List V} (ha:SqL K H a xs) (hb:SqL K H b ys) (r:Twns K H n xs ys):Twn K H (n+1) (.ref a) (.ref b)
  | tup {n:Nat} {a b:Addr} {xs ys:List V} (ha:SqT K H a xs) (hb:SqT K H b ys) (r:Twns K H n xs ys):Twn K H (n+1) (.ref a) (.ref b)
  | dic {n:Nat} {a b:Addr} {kvs:List (Key × V)} (ha:H a=some (.dK kvs)) (hb:H b=some (.dK kvs)) (nd:(kvs.map (·.1)).Nodup) (hi:∀ kv∈kvs,∃ i,kv.2=.int i):Twn K H (n+1) (.ref a) (.ref b)
inductive Twns (K:PySem.W.Frag) (H:Hp):Nat→List V→List V→Prop
  | nil {n:Nat}:Twns K H n [] []
  | cons {n:Nat} {x y:V} {xs ys:List V} (h:Twn K H n x y) (r:Twns K H n xs ys):Twns K H n (x::xs) (y::ys)
end
theorem Twns.of {K:PySem.W.Frag}{H:Hp}{n:Nat}:∀ {xs ys:List V},xs.length=ys.length→(∀ (i:Nat) x y,xs[i]?=some x→ys[i]?=some y→Twn K H n x y)→Twns K H n xs ys
  | [],[],_,_=>.nil
  | x::xs,y::ys,hl,h=>.cons (h 0 x y rfl rfl) (Twns.of (by simpa using hl) fun i a b e f=>h (i+1) a b e f)
section
variable {X:Cx}{pins:List (Addr × Obj)}{σ:St}{H:Hp}{s:Shared}
mutual
theorem Inv.twn (I:Inv X pins σ H s):∀ {n:Nat} {x y:V},Twn X.K H n x y→∀ {u v:Value} {A:Around},RelV x u→RelV y v→A.units+n≤cLine→EqW X.prog X.w A s u v
  | _,_,_,.int i,u,v,A,ru,rv,_=>by
    obtain ⟨t,rfl⟩:=ru
    obtain ⟨t',rfl⟩:=rv
    have:=PySem.W.keq_flat (A:=A) (s:=s) (v:=.int i t) (y:=.int i t') (d:=.int i) (e:=.int i) (fun _=>.int ..) (fun _=>.int ..)
    rw [show PyData.eqv (.int i) (.int i)=true by simp [PyData.eqv]] at this
    exact .of this
  | _,_,_,.str x,u,v,A,ru,rv,_=>by
    obtain ⟨t,rfl⟩:=ru
    obtain ⟨t',rfl⟩:=rv
    have:=PySem.W.keq_flat (A:=A) (s:=s) (v:=.str x t) (y:=.str x t') (d:=.str x) (e:=.str x) (fun _=>.str ..) (fun _=>.str ..)
    rw [show PyData.eqv (.str x) (.str x)=true by simp [PyData.eqv]] at this
    exact .of this
  | _,_,_,.lst (n:=n) (a:=a) (b:=b) ha hb r,u,v,A,ru,rv,hu=>by
    cases ru
    cases rv
    by_cases hab:a=b
    · subst hab
      exact .of (SeqAt.EqAt.same _)
    obtain ⟨is1,r1,p1,_⟩:=I.list ha
    obtain ⟨is2,r2,p2,_⟩:=I.list hb
    obtain ⟨hl,he⟩:=Inv.twns I r r1 r2 (A:=A.in1) (by rw [Around.in1_units];omega)
    exact .lists hab p1.isList p2.isList (by simpa using hl) (by omega) fun j h1 h2=>by simpa using he j (by simpa using h1) (by simpa using h2)
  | _,_,_,.tup (n:=n) (a:=a) (b:=b) ha hb r,u,v,A,ru,rv,hu=>by
    cases ru
    cases rv
    by_cases hab:a=b
    · subst hab
      exact .of (SeqAt.EqAt.same _)
    obtain ⟨is1,r1,p1,_⟩:=I.tuple ha
    obtain ⟨is2,r2,p2,_⟩:=I.tuple hb
    obtain ⟨hl,he⟩:=Inv.twns I r r1 r2 (A:=A.in1) (by rw [Around.in1_units];omega)
    exact .tups hab p1 p2 (by simpa using hl) (by omega) fun j h1 h2=>by simpa using he j (by simpa using h1) (by simpa using h2)
  | _,_,_,.dic (n:=n) (a:=a) (b:=b) ha hb nd hi,u,v,A,ru,rv,hu=>by
    cases ru
    cases rv
    by_cases hab:a=b
    · subst hab
      exact .of (SeqAt.EqAt.same _)
    obtain ⟨z1,d1,va,r1,e1⟩:=dk_of I.hok ha
    obtain ⟨z2,d2,vb,r2,e2⟩:=dk_of I.hok hb
    refine .refs hab fun E Q h=>PySem.W.keq_eq (r:=true) d1 d2 e1 e2 (by omega) (fun _=>hits_same nd hi r2 (fun _ h=>h) r1) ?_
    rw [← r1.length,← r2.length]
    simpa using h
theorem Inv.twns (I:Inv X pins σ H s):∀ {n:Nat} {xs ys:List V},Twns X.K H n xs ys→∀ {us vs:List Value} {A:Around},Vals xs us→Vals ys vs→A.units+n≤cLine→us.length=vs.length∧∀ (j:Nat) (h1:j<us.length) (h2:j<vs.length),EqW X.prog X.w A s us[j] vs[j]
  | _,_,_,.nil,us,vs,A,ru,rv,_=>by
    cases ru
    cases rv
    exact ⟨rfl,fun j h1=>absurd h1 (by simp)⟩
  | _,_,_,.cons h r,us,vs,A,ru,rv,hu=>by
    cases ru with
    | cons a1 a2 =>
      cases rv with
      | cons b1 b2 =>
        obtain ⟨l,q⟩:=Inv.twns I r a2 b2 hu
        refine ⟨by simp [l],fun j h1 h2=>?_⟩
        cases j with
        | zero=>exact Inv.twn I h a1 b1 hu
        | succ j=>exact q j (by simpa using h1) (by simpa using h2)
end
end
def rNeT (K:PySem.W.Frag):R2:=fun x y H Q=>∃ a b xs ys,x=.ref a∧y=.ref b∧SqL K H a xs∧SqL K H b ys∧((Twns K H 8 xs ys∧Q (.bl false) H)∨(xs.length≠ys.length∧Q (.bl true) H))
theorem op_neT {X:Cx}(K:PySem.W.Frag)(hu:X.A.units+64<cLine)(h:X.K=K:=by rfl):OpR X (compareOp .NotEq) (rNeT K):=by
  subst h
  intro pins s σ H x y v u Q I rx ry h
  obtain ⟨a,b,xs,ys,rfl,rfl,ha,hb,h⟩:=h
  cases rx
  cases ry
  obtain ⟨is1,r1,p1,_⟩:=I.list ha
  obtain ⟨is2,r2,p2,_⟩:=I.list hb
  rcases h with ⟨h,q⟩ | ⟨h,q⟩
  · obtain ⟨hl,he⟩:=Inv.twns I h r1 r2 (A:=X.A.in1) (by rw [Around.in1_units];omega)
    exact neW_lists p1.isList p2.isList (by simpa using hl) (by omega) (fun j h1 h2=>by simpa using he j (by simpa using h1) (by simpa using h2)) ⟨.bl false,H,I,rfl,q⟩
  · have z:=SeqAt.RcNeAt.lists_lengths (A:=X.A) p1.isList p2.isList (by
      have l1:=Paired.length r1
      have l2:=Paired.length r2
      simp only [List.size_toArray,bne_iff_ne,ne_eq]
      omega) (by omega)
    exact z X.prog X.w X.xe _ ⟨.bl true,H,I,rfl,q⟩
theorem rNeT_ap {K:PySem.W.Frag}{x y:V}{H:Hp}{Q:VK}:rNeT K x y H Q=∃ a b xs ys,x=.ref a∧y=.ref b∧SqL K H a xs∧SqL K H b ys∧((Twns K H 8 xs ys∧Q (.bl false) H)∨(xs.length≠ys.length∧Q (.bl true) H)):=rfl
section
variable {a:Addr}{o:Obj}{kvs:List (Key × V)}{m:Nat}{caps:List Nat}{tt:TT}{te:TE}{σ:St}{H1:Hp}{Q:VK}
end
end L2
namespace L2
open PySem
theorem sThaw_ap {t:TS}{D:Ends}{σ:St}{H:Hp}:sThaw t D σ H=∃ p kvs,H p=some (.dK kvs)∧t { nx:=fun σ' H'=>∃ o,H' p=some (.frz o (.dK kvs))∧D.nx σ' (upd H' p (.dK kvs)),rt:=fun v H'=>∃ o,H' p=some (.frz o (.dK kvs))∧D.rt v (upd H' p (.dK kvs)),bk:=fun σ' H'=>∃ o,H' p=some (.frz o (.dK kvs))∧D.bk σ' (upd H' p (.dK kvs)),ct:=fun σ' H'=>∃ o,H' p=some (.frz o (.dK kvs))∧D.ct σ' (upd H' p (.dK kvs)) } σ H:=rfl
end L2
namespace L2
open PySem PySem.Spec PyProof.Rows
end L2
namespace L2
open PySem PySem.Spec PyProof.Rows
theorem ObjOk.there {P:Program}{w:World}{H:Hp}{h:Heap}{a:Addr}{o:HO}(x:ObjOk P w H h a o):∃ u,h.get? a=some u:=by
  cases o with
  | lst xs=>obtain ⟨_,_,_,_,e⟩:=x;exact ⟨_,e⟩
  | tup xs=>obtain ⟨_,_,_,o,e,_⟩:=x;exact ⟨_,e⟩
  | dK kvs=>obtain ⟨_,_,_,_,o,_,_,e,_⟩:=x;exact ⟨_,e⟩
  | dT kvs=>obtain ⟨_,_,_,_,o,_,_,e,_⟩:=x;exact ⟨_,e⟩
  | set S n=>obtain ⟨o,_,_,_,e,_⟩:=x;exact ⟨_,e⟩
  | ins C dx fs=>obtain ⟨_,_,_,e,_⟩:=x;exact ⟨_,e⟩
  | own y=>obtain ⟨_,e⟩:=x;exact ⟨_,e⟩
  | xd fs=>obtain ⟨_,⟨_,_,_,e,_⟩,_⟩:=x;exact ⟨_,e⟩
  | rng lo hi=>obtain ⟨_,_,_,e⟩:=x;exact ⟨_,e⟩
  | frz ob u=>obtain ⟨e,_⟩:=x;exact ⟨_,e⟩
  | tbl ps=>exact ⟨_,show h.get? a=some _ from x⟩
  | met f y=>exact ⟨_,show h.get? a=some _ from x⟩
  | ext φ=>obtain ⟨_,⟨_,e⟩,_⟩:=x;exact ⟨_,e⟩
structure Cov (l:List Env)(h:Heap)(H:Hp)(B:Heap):Prop where
  old:∀ b o,h.get? b=some o→b∉frs l→∃ u,B.get? b=some u
  trk:∀ b u,H b=some u→∃ o,B.get? b=some o
section
variable {X:Cx}{pins:List (Addr × Obj)}{σ:St}{H:Hp}{s:Shared}
theorem Inv.frStack (I:Inv X pins σ H s){b:Addr}{o:Obj}(e:X.s₀.heap.get? b=some o)(f:b∉X.fs):b∉frs X.stack:=fun hb=>by
  rcases List.mem_cons.mp (I.stkSub b hb) with z | z
  · exact absurd (Heap.lt_size e) (Nat.not_lt.mpr (by rw [z];exact I.ok.above))
  · exact f z
theorem Inv.landed {B h':Heap}(I:Inv X pins σ H s)(hex:X.ex=[])(hB:B.StaysIn h')(hs:B.StaysIn s.heap)(c:Cov X.stack X.s₀.heap H B)(us:s.heap.UpToSlots h'):Un X.fs [] X.H₀ H X.s₀.heap h'∧HOk X.prog X.w H h':=by
  have same:∀ b o,s.heap.get? b=some o→(∃ u,B.get? b=some u)→h'.get? b=some o:=fun b o e ⟨u,hu⟩=>by
    have:=hs b u hu
    rw [e] at this
    cases this
    exact hB b _ hu
  have nx:∀ b:Addr,b∉X.ex:=fun b hb=>by rw [hex] at hb;cases hb
  refine ⟨⟨fun b o e n f _=>same b o (I.base.keep b o e n f (nx b)) (c.old b o e (I.frStack e f)),fun b o e n f _=>?_,fun b o e n _=>I.base.free b o e n (nx b),fun b o e _=>?_,I.base.tups,I.base.frzs,I.base.tbls⟩,fun a o e=>?_⟩
  · obtain ⟨sl,h1⟩:=I.base.slot b o e n f (nx b)
    obtain ⟨_,o',ho',hd⟩:=I.funs.mem f
    rw [h1] at ho'
    cases ho'
    obtain ⟨sl2,h2⟩:=us b _ h1 hd
    exact ⟨sl2,h2⟩
  · by_cases f:b∈X.fs
    · obtain ⟨_,o',ho',hd⟩:=I.funs.mem f
      obtain ⟨sl,h2⟩:=us b o' ho' hd
      exact ⟨_,h2⟩
    · obtain ⟨u,hu⟩:=c.old b o e (I.frStack e f)
      exact ⟨u,hB b u hu⟩
  · exact (I.hok a o e).stay (fun b u hb q=>same b u q (hb.elim (fun z=>by rw [z];exact c.trk a o e) fun z=>c.trk b _ z)) (fun _ q=>q) fun _ _ q=>q
end
section
variable {P:Program}{w:World}{K:PySem.W.Frag}{mg:Str→Option Value}{base:Heap}{N:List Str}{qual:Str}{scope:Scope}{f:Addr}{cd:Value}{A:Around}{outer:List Env}{s0:Shared}{H0:Hp}{E:XK}
end
end L2
namespace L2
open PySem PySem.Spec PyProof.Rows
section
variable {P:Program}{w:World}{K:PySem.W.Frag}{mg:Str→Option Value}{base:Heap}{N:List Str}{qual:Str}{scope:Scope}{f:Addr}{cd:Value}{A:Around}{outer:List Env}{s0:Shared}{H0:Hp}{E:XK}
def tRaise (C:Addr)(E:XK)(te:TE):TS:=fun _ σ H=>te σ H fun _ H1=>E (.ref C) none H1
end
def XP (X:Cx)(pins:List (Addr × Obj))(σ:St)(W:Addr→Hp→Prop)(e:Value)(s':Shared):Prop:=∃ (ea C:Addr) (a0:Value) (B:Heap) (H':Hp),
  e=.ref ea∧Inv X pins σ H' s'∧Heap.FlyingW B X.stack ea (.ref C) a0 s'.heap∧Cov X.stack X.s₀.heap H' B∧(∀ p∈X.pn++pins,∃ o,B.get? p.1=some o)∧W C H'
section
variable {X:Cx}{pins:List (Addr × Obj)}{σ:St}{H:Hp}{s:Shared}
theorem Inv.landed2 {B h':Heap}(I:Inv X pins σ H s)(hex:X.ex=[])(hB:B.StaysIn h')(hs:B.StaysIn s.heap)(c:Cov X.stack X.s₀.heap H B)(hp:∀ p∈X.pn++pins,∃ o,B.get? p.1=some o)(us:s.heap.UpToSlots h'):Inv X pins σ H { s with heap:=h' }:=by
  obtain ⟨un,hok⟩:=I.landed hex hB hs c us
  have cl:∀ {c:Addr} {v:Option Value},s.heap.IsCell c v→h'.IsCell c v:=fun {c v} ⟨o,ho,hd⟩=>by
    obtain ⟨sl,e⟩:=us c o ho fun vs q=>by rw [hd] at q;cases q
    exact ⟨_,e,hd⟩
  refine ⟨I.ok,I.os,I.bare,by rw [hex];exact un,?_,fun x c h=>let ⟨v,q⟩:=I.cell x c h;⟨v,cl q⟩,I.free,I.freeC,fun p q=>?_,hok,I.len⟩
  · obtain ⟨m,hn,hl⟩:=I.loc
    refine ⟨m,us.ns hn,fun i x v e1 e2 e3=>?_⟩
    obtain ⟨u,r,l⟩:=hl i x v e1 e2 e3
    exact ⟨u,r,l.elim (fun z=>.inl z) fun ⟨k,c,hc,q⟩=>.inr ⟨k,c,hc,cl q⟩⟩
  · obtain ⟨e1,r⟩:=I.pin p q
    obtain ⟨o,ho⟩:=hp p q
    have:=hs _ _ ho
    rw [e1] at this
    cases this
    exact ⟨hB _ _ ho,r⟩
end
abbrev TX:=(Addr→St→Hp→Prop)→TS
section
variable {X:Cx}{st:Stmt}{sts rest:List Stmt}{t u:TX}{pos:Pos}
end
end L2
namespace L2
open PySem PySem.Spec PyProof.Rows
def inEx (X:Cx)(ea:Addr)(oe:Obj):Cx:={ X with A:=X.A.mark (some (.ref ea)),calm:=false,pn:=(ea,oe)::X.pn,xe:=fun _ _=>False }
section
variable {X:Cx}{pins:List (Addr × Obj)}{σ:St}{H:Hp}{s:Shared}{ea:Addr}{oe:Obj}
theorem Inv.inExc (I:Inv X pins σ H s)(e1:s.heap.get? ea=some oe)(e2:H ea=none)(n1:ea≠X.env.locals)(n2:ea∉X.fs)(n3:∀ v,oe.data≠.cell v):Inv (inEx X ea oe) pins σ H s :=
  ⟨⟨I.ok.mod,I.ok.kind,I.ok.glob,I.ok.blt,I.ok.above,I.ok.inj,I.ok.has,I.ok.cab,(fun z=>by cases z),I.ok.frames,I.ok.stk,I.ok.exf,I.ok.bs,I.ok.bsz,I.ok.noex,I.ok.exfs,I.ok.funs,I.ok.frf⟩,I.os,I.bare,I.base,I.loc,I.cell,I.free,I.freeC,fun p hp=>by
    rcases List.mem_append.mp hp with hp | hp
    · rcases List.mem_cons.mp hp with rfl | hp
      · exact ⟨e1,e2,n1,n2,n3⟩
      · exact I.pin p (List.mem_append_left _ hp)
    · exact I.pin p (List.mem_append_right _ hp),I.hok,I.len⟩
theorem Inv.outExc (I:Inv (inEx X ea oe) pins σ H s)(ok:X.Ok):Inv X pins σ H s :=
  ⟨ok,I.os,I.bare,I.base,I.loc,I.cell,I.free,I.freeC,fun p hp=>I.pin p (by
    rcases List.mem_append.mp hp with hp | hp
    · exact List.mem_append_left _ (.tail _ hp)
    · exact List.mem_append_right _ hp),I.hok,I.len⟩
theorem Inv.gone {h':Heap}{t':Nat}{m:Str→Option Value}{i:Nat}{n:Str}{v:Option Value}(I:Inv X pins σ H s)(hN:X.N.Nodup)(hi:X.N[i]?=some n)(hn:s.heap.Ns X.env.locals m)(hl:∀ (i:Nat) (x:Str) (v:V),X.N[i]?=some x→σ[i]?=some (some v)→Vis X.env.scope x→∃ u,RelV v u∧Look X.env s.heap m x u)
    (hn':h'.Ns X.env.locals (fun x=>if x=n then v else m x)) (sb:Heap.SameBut X.env.locals s.heap h'):Inv X pins (σ.set i none) H { s with heap:=h',toks:=t' }:=by
  have k:∀ b o,b≠X.env.locals→s.heap.get? b=some o→h'.get? b=some o:=fun b o ne e=>(sb.2 b ne).trans e
  have nl:∀ b o,X.s₀.heap.get? b=some o→b≠X.env.locals:=fun b o e z=>absurd (Heap.lt_size e) (Nat.not_lt.mpr (by rw [z];exact I.ok.above))
  have cl:∀ {c:Addr} {v:Option Value},c≠X.env.locals→s.heap.IsCell c v→h'.IsCell c v:=fun {c v} ne ⟨o,ho,hd⟩=>⟨o,k c o ne ho,hd⟩
  refine ⟨I.ok,I.os,I.bare,⟨fun b o e n f x=>k b o (nl b o e) (I.base.keep b o e n f x),fun b o e n f x=>?_,I.base.free,fun b o e x=>?_,I.base.tups,I.base.frzs,I.base.tbls⟩,⟨_,hn',fun j x w e1 e2 e3=>?_⟩,fun x c h=>let ⟨v,q⟩:=I.cell x c h;⟨v,cl (I.cne x c h) q⟩,I.free,I.freeC,fun p q=>?_,fun a o e=>?_,by rw [List.length_set];exact I.len⟩
  · obtain ⟨sl,h1⟩:=I.base.slot b o e n f x
    exact ⟨sl,k b _ (nl b o e) h1⟩
  · obtain ⟨o',h1⟩:=I.base.there b o e x
    exact ⟨o',k b _ (nl b o e) h1⟩
  · have ji:j≠i:=fun z=>by
      subst z
      rw [List.getElem?_set] at e2
      split at e2
      · split at e2<;>cases e2
      · exact absurd rfl (by assumption)
    rw [List.getElem?_set_ne (Ne.symm ji)] at e2
    obtain ⟨u,r,l⟩:=hl j x w e1 e2 e3
    refine ⟨u,r,l.elim (fun ⟨a,b⟩=>.inl ⟨a,?_⟩) fun ⟨a,c,hc,q⟩=>.inr ⟨a,c,hc,cl (I.cne x c hc) q⟩⟩
    show (if x=n then v else m x)=some u
    rw [if_neg fun z:x=n=>ji (nodup_ix hN (by rw [← z];exact e1) hi)]
    exact b
  · obtain ⟨e1,e2,e3,r⟩:=I.pin p q
    exact ⟨k _ _ e3 e1,e2,e3,r⟩
  · refine (I.hok a o e).stay (fun b u hb q=>k b u (fun z=>?_) q) (fun _ q=>q) fun _ _ q=>q
    rcases hb with hb | hb
    · rw [← hb,z,I.free] at e
      cases e
    · rw [z,I.free] at hb
      cases hb
end
section
variable {X:Cx}
end
end L2
namespace EX
open PySem PySem.Spec PyProof.Rows PySem.W PySem.Calls Builtin Builtin.ObjectAttr Builtin.Getset_descriptor
structure XIsi (K:Frag)(C:Addr):Prop where
  cls:(clsIn K C).isSome=true
  ga:findIn K (.ref C) "__getattribute__"=some (some (.builtin "BaseException.__getattribute__"))
  no:findIn K (.ref C) "__getattr__"=some none
  ca:findIn K (.ref C) "__class__"=some (some (.builtin "object.__class__"))
  ob:mroIn K C (.type "object")=some true
  be:mroIn K C (.type "BaseException")=some true
section
variable {prog:Program}{w:World}{A:Around}{E:Value→Shared→Prop}{s:Shared}{K:Frag}{x C:Addr}{ox:Obj}
theorem xclass_get {R:Result→Shared→Prop}{tp:Value}(Z:XIsi K C)(X:K.In s.heap)(L0:Looks (model prog w) s.heap (typeOf (.ref x)) (.ref C))(h:R (.ok (.ret (.ref C))) s) :
    codeAny (model prog w) A (.call (.builtin "getset_descriptor.__get__") ⟨[.builtin "object.__class__",.ref x,tp],[]⟩) R s:=by
  obtain ⟨hh,g,dr,t,os⟩:=s
  have L1:=looks_mroIn (M:=model prog w) X Z.ob
  refine codeAny_call_builtin KF.slot_gs.plain KF.entry_gs (KF.slot_gs.check _ _ _ _ _ _ _ _ KF.type_class (KF.args_gs _ _ _) ?_)
  unfold Builtin.«getset_descriptor.__get__» descrGet
  rw [dga_obj]
  refine wpAny_bind (wpAny_pure ?_)
  unfold descrGetter descrCheckInstance descrNameAndClass isInstance
  simp only [KF.owner_class]
  repeat lk
  refine ⟨Code.quiet_builtin _ (by decide +kernel),codeAny_builtin KF.entry_class ?_⟩
  unfold Builtin.«object.__class__» shownTypeOf
  repeat lk
  exact h
theorem xclass_entry {tk:Tok}{Q:Fin→Shared→Prop}(Z:XIsi K C)(X:K.In s.heap)(hx:s.heap.get? x=some ox)(hc:ox.cls=.ref C)(hq:Q (.done (.ret (.ref C))) s) :
    wpAny (model prog w) A (Builtin.«object.__getattribute__» ⟨[.ref x,.str "__class__" tk],[]⟩) Q E s:=by
  obtain ⟨hh,g,dr,t,os⟩:=s
  have L0:Looks (model prog w) hh (typeOf (.ref x)) (.ref C):=fun A' Q' E' s' k z=>by
    unfold typeOf
    exact wpAny_bind (wpAny_loadPart (k _ _ hx) (by rw [hc];exact wpAny_pure z))
  have L1:=looks_findIn (M:=model prog w) X Z.ca
  have hT5:(⟨hh,g,dr,t,os⟩:Shared).TypeIs (.builtin "object.__class__") "getset_descriptor":=F.typeOf_object_class
  have f5:=F.typeOf_object_class
  have f6:=F.slot_gs_get.lookup
  have f7:=F.slot_gs_set.lookup
  repeat (any_goals (first | assumption | with_reducible refine L0.at ?_ | with_reducible refine L1.at ?_ | wp_step))
  refine xclass_get Z X L0 ?_
  repeat (any_goals (first | assumption | wp_step))
theorem xcheck_ga {M:Model}{nameV:Value}{Q:Unit→Shared→Prop}(Z:XIsi K C)(X:K.In s.heap)(L0:Looks M s.heap (typeOf (.ref x)) (.ref C))(hq:Q () s):wpAny M A (checkBuiltinCall "BaseException.__getattribute__" ⟨[.ref x,nameV],[]⟩) Q E s:=by
  have hk:builtinKind "BaseException.__getattribute__"=some .slot:=by decide +kernel
  have hsplit:splitId "BaseException.__getattribute__"=some ("BaseException","__getattribute__"):=by decide +kernel
  have L1:=looks_mroIn (M:=M) X Z.be
  have ha:=F.args_bexc_ga (.ref x) nameV
  obtain ⟨hh,g,dr,t,os⟩:=s
  simp only [checkBuiltinCall,hk,hsplit]
  refine wpAny_bind ?_
  unfold isInstance
  repeat (first | with_reducible refine L0.at ?_ | with_reducible refine L1.at ?_ | wp_step)
  exact hq
theorem xclass_attr {Q:Option Value→Shared→Prop}(Z:XIsi K C)(X:K.In s.heap)(hx:s.heap.get? x=some ox)(hc:ox.cls=.ref C)(hq:Q (some (.ref C)) { s with toks:=s.toks+1 }):wpAny (model prog w) A (getAttr? (.ref x) "__class__") Q E s:=by
  obtain ⟨hh,g,dr,t,os⟩:=s
  have L0:Looks (model prog w) hh (typeOf (.ref x)) (.ref C):=fun A' Q' E' s' k z=>by
    unfold typeOf
    exact wpAny_bind (wpAny_loadPart (k _ _ hx) (by rw [hc];exact wpAny_pure z))
  have L1:=looks_findIn (M:=model prog w) X Z.ga
  have L2:=looks_findIn (M:=model prog w) X Z.no
  have f3:=F.excAttr_ValueError.ga.bind (.ref x)
  have hx0:(false&&onTheHeap (Value.builtin "BaseException.__getattribute__"))=false:=rfl
  have hx2:(Value.builtin "BaseException.__getattribute__"==Value.builtin "object.__getattribute__")=false:=by decide +kernel
  have hx1:(onTheHeap (Value.ref C)&&Value.builtin "BaseException.__getattribute__"==Value.builtin "object.__getattribute__")=false:=by rw [hx2];rfl
  unfold getAttr? getAttrBy?
  repeat (any_goals (first | assumption | with_reducible refine L0.at ?_ | with_reducible refine L1.at ?_ | with_reducible refine L2.at ?_ | wp_step))
  refine codeAny_call_builtin F.excAttr_ValueError.ga.plain F.entry_bexc_ga (xcheck_ga Z X L0 (xclass_entry Z X hx hc ?_))
  repeat (any_goals (first | assumption | wp_step))
theorem kitx_exc (Z:XIsi K C)(hc:ox.cls=.ref C):KitX K (.ref x) (.ref C) (fun h=>h.get? x=some ox) where
  ty:=fun _ _ _ hx A' Q' E' s' k z=>by
    unfold typeOf
    exact wpAny_bind (wpAny_loadPart (k _ _ hx) (by rw [hc];exact wpAny_pure z))
  it:=fun _ _ X _=>by
    obtain ⟨cdD,hcD⟩:=Option.isSome_iff_exists.mp Z.cls
    unfold clsIn at hcD
    split at hcD
    · rename_i c' d' cd' sl' ho
      intro A' Q' E' s' k q
      unfold isType loadHead
      exact wpAny_bind (wpAny_loadPart (k _ _ (X _ _ ho)) (wpAny_pure q))
    · cases hcD
  ne:=fun h tp dd its n sl X htp=>by
    obtain ⟨cdD,hcD⟩:=Option.isSome_iff_exists.mp Z.cls
    refine Bool.eq_false_iff.mpr fun q=>?_
    have e:C=tp:=Value.ref.inj (beq_iff_eq.mp q)
    subst e
    unfold clsIn at hcD
    split at hcD
    · rename_i c' d' cd' sl' ho
      have z:=(X _ _ ho).symm.trans htp
      cases z
    · cases hcD
  ca:=fun X hx k=>xclass_attr Z X hx hc k
end
end EX
namespace L2
open PySem PySem.Spec PyProof.Rows
section
variable {P:Program}{w:World}{K:PySem.W.Frag}{mg:Str→Option Value}{base:Heap}
variable {N:List Str}{qual:Str}{scope:Scope}{f:Addr}{cd:Value}{A:Around}{outer:List Env}{s0:Shared}{H0:Hp}{E:XK}
end
end L2
namespace L2
open PySem PySem.Spec PyProof.Rows
section
variable {P:Program}{w:World}{K:PySem.W.Frag}{mg:Str→Option Value}{base:Heap}{N:List Str}{qual:Str}{scope:Scope}{f:Addr}{cd:Value}{A:Around}{outer:List Env}{s0:Shared}{H0:Hp}{E:XK}
end
end L2
namespace L2
open PySem PySem.Spec PyProof.Rows
section
variable {prog:Program}{w:World}{A:Around}{E:Value→Shared→Prop}{h:Heap}{g:Array GenState}{d:Drawn}{t:Nat}{os:OsState}
variable {nm q:Str}{C N:Addr}{bs bm bmB:List Value}{hdc:Bool}{sn:List Str}{sub:List Value}{ab:Bool}{col:Option Bool}{dd:Option Addr}{k0 k1 k2 k3 k5:Option Value}{B Bn newId nid initId inN:String}{bmN:List Value}
abbrev excB (C t:Addr):Obj:={ cls:=.ref C,data:=.fields #[.ref t,.none,.none,.none,.bool false,.none] }
end
section
variable {X:Cx}{x:Str}{e:Expr}{te:TE}{j:Nat}{p1 p3 pos:Pos}
end
end L2
namespace L2
open PySem PySem.Spec PyProof.Rows Builtin Builtin.ObjectAttr
structure XFld (K:PySem.W.Frag)(C M:Addr):Prop where
  cls:∃ cd,PySem.W.clsIn K C=some cd∧cd.mro=.ref C::.ref M::bmVal∧cd.hasDict=true
  sa:PySem.W.findIn K (.ref C) "__setattr__"=some (some (.builtin "object.__setattr__"))
  ob:PySem.W.mroIn K C (.type "object")=some true
section
variable {prog:Program}{w:World}{A:Around}{E:Value→Shared→Prop}{s:Shared}{K:PySem.W.Frag}{C M e ta:Addr}{name:Str}{v:Value}
end
end L2
namespace L2
open PySem PySem.Spec PyProof.Rows Builtin Builtin.ObjectAttr PySem.W
abbrev excD (C t dx:Addr):Obj:={ excB C t with dict:=some dx }
section
variable {prog:Program}{w:World}{A:Around}{E:Value→Shared→Prop}{s:Shared}{K:Frag}{C e ta dx:Addr}{name:Str}{v:Value}
end
end L2
namespace L2
open PySem PySem.Spec PyProof.Rows
structure XMk (K:PySem.W.Frag)(C M f:Addr):Prop where
  lk:∃ (nm q:Str) (N:Addr) (bs:List Value) (hd:Bool) (sn:List Str) (sub:List Value) (ab:Bool) (col:Option Bool) (dd:Option Addr) (k0 k1 k2 k3 k5:Option Value),K.lookup C=some (excClassObj nm q C N bs (.ref M::bmVal) hd sn sub ab col dd k0 k1 k2 k3 k5 "ValueError.__new__")
  lkM:∃ (nm q:Str) (N:Addr) (bs:List Value) (hd:Bool) (sn:List Str) (sub:List Value) (ab:Bool) (col:Option Bool) (dd:Option Addr) (k0 k1 k2 k3 k5:Option Value),K.lookup M=some (excClassObj nm q M N bs bmVal hd sn sub ab col dd k0 k1 k2 k3 k5 "ValueError.__new__")
  m:XCls K M
  init:PySem.W.findIn K (.ref C) "__init__"=some (some (.ref f))
  fn:PySem.W.typeIn K (.ref f)=some (.type "function")
  kp:PySem.W.keepIn K (.ref C)=true
section
variable {X:Cx}{C M f:Addr}{fd:FuncData}{k:Nat}{ps:List Str}{sp:Sp}{E:XK}{CX:CXT}{x:Str}{p pos:Pos}{e:Expr}{es:List Expr}{t:TA}
structure XIni (K:PySem.W.Frag)(M:Addr):Prop where
  sp:PySem.W.specialIn K (.ref M) "__getattribute__"=some (some (.builtin "type.__getattribute__"))
  rd:PySem.W.readsIn K M (.type "type")=true
  fc:PySem.W.findCls K (.ref M) (.type "type") "__init__"=some (.val (.builtin "ValueError.__init__"))
end
end L2
namespace L2
open PySem PySem.Spec PyProof.Rows
def excH (e C dx:Addr):HO:=.ext fun h=>∃ t,h.get? e=some (excD C t dx)
section
variable {X:Cx}{o value:Expr}{f:Str}{ta tv:TE}{pos pos':Pos}
end
end L2
namespace L2
open PySem PySem.Spec PyProof.Rows
theorem boot_ValueError:bootBuiltins "ValueError"=some (.type "ValueError"):=by rfl
section
variable {X:Cx}{C:Addr}{x:Str}{p pos:Pos}{e:Expr}{es:List Expr}{t:TA}
end
section
variable {P:Program}{w:World}{K:PySem.W.Frag}{mg:Str→Option Value}{base:Heap}
end
end L2
namespace L2
open PySem PySem.Spec PyProof.Rows
inductive KD {α:Type}:Sem α→Prop
  | pure (a:α):KD (.pure a)
  | uns (w:String):KD (.unsupported w)
  | at (p:Pos) {k:Unit→Sem α} (h:∀ u,KD (k u)):KD (.at p k)
  | load (a:Addr) (q:Option Value) {k:Obj→Sem α} (h:∀ o,KD (k o)):KD (.load a q k)
  | upd (a:Addr) (q:Option Value) {f:Obj→Obj} {k:Unit→Sem α} (hf:∀ o,(f o).dict=o.dict∧(o.data≠.freed→(f o).data≠.freed)) (h:∀ u,KD (k u)):KD (.update a q f k)
  | alive (a:Addr) {k:Option Obj→Sem α} (h:∀ o,KD (k o)):KD (.loadIfAlive a k)
  | alloc (o:Obj) {k:Addr→Sem α} (h:∀ a,KD (k a)):KD (.alloc o k)
  | ask {k:Setting→Sem α} (h:∀ a,KD (k a)):KD (.ask k)
  | stack {k:List (Code × Pos)→Sem α} (h:∀ a,KD (k a)):KD (.stack k)
  | thread {k:Nat→Sem α} (h:∀ a,KD (k a)):KD (.thread k)
section
variable {α β:Type}
theorem kd_bind {m:Sem α}{f:α→Sem β}(h:KD m)(g:∀ a,KD (f a)):KD (m >>= f):=by
  show KD (m.bind f)
  induction h with
  | pure a=>exact g a
  | uns w=>exact .uns w
  | «at» p h ih=>exact .at p fun u=>ih u
  | load a q h ih=>exact .load a q fun u=>ih u
  | upd a q hf h ih=>exact .upd a q hf fun u=>ih u
  | alive a h ih=>exact .alive a fun u=>ih u
  | alloc o h ih=>exact .alloc o fun u=>ih u
  | ask h ih=>exact .ask fun u=>ih u
  | stack h ih=>exact .stack fun u=>ih u
  | thread h ih=>exact .thread fun u=>ih u
def DictAt (h:Heap)(e:Addr)(d:Option Addr):Prop:=∃ o,h.get? e=some o∧o.dict=d
theorem DictAt.push {h:Heap}{e:Addr}{d:Option Addr}{o:Obj}(x:DictAt h e d):DictAt (h.push o) e d:=let ⟨u,e1,e2⟩:=x;⟨u,Heap.get?_push_of_some _ e1,e2⟩
theorem get_data {h:Heap}{e:Addr}{o:Obj}(x:h.get? e=some o):o.data≠.freed:=fun z=>by
  unfold Heap.get? at x
  split at x
  · cases x
  · rename_i hn
    obtain ⟨c,dd,da,sl⟩:=o
    cases z
    exact hn c dd sl x
theorem DictAt.upd {h:Heap}{e a:Addr}{d:Option Addr}{f:Obj→Obj}(x:DictAt h e d)(hf:∀ o,(f o).dict=o.dict∧(o.data≠.freed→(f o).data≠.freed)):DictAt (h.update a f) e d:=by
  obtain ⟨u,e1,e2⟩:=x
  by_cases c:a=e
  · subst c
    have nf:=(hf u).2 (get_data e1)
    refine ⟨f u,Heap.get?_update_self f e1 ?_,(hf u).1.trans e2⟩
    generalize f u=z at nf
    obtain ⟨c,dd,da,sl⟩:=z
    cases da<;>first | (exact absurd rfl nf) | rfl
  · exact ⟨u,(Heap.get?_update_other _ _ c).trans e1,e2⟩
theorem wp_kd {M:Model}{Γ:PySem.Ctx}{e:Addr}{d:Option Addr}{t:Sem α}(k:KD t){Q:α→Pos→Shared→Prop}{E:Value→Pos→Shared→Prop}{p:Pos}{s:Shared}(h:Sem.wp M Γ t Q E p s)(x:DictAt s.heap e d) :
    Sem.wp M Γ t (fun a p s'=>Q a p s'∧DictAt s'.heap e d) (fun v p s'=>E v p s'∧DictAt s'.heap e d) p s:=by
  induction k generalizing p s with
  | pure a=>rw [Sem.wp_pure] at h ⊢;exact ⟨h,x⟩
  | uns w=>rw [Sem.wp_unsupported] at h;exact h.elim
  | «at» q hk ih=>rw [Sem.wp_at] at h ⊢;exact ih () h x
  | load a q hk ih =>
    rw [Sem.wp_load] at h ⊢
    obtain ⟨o,h1,h2⟩:=h
    exact ⟨o,h1,ih o h2 x⟩
  | upd a q hf hk ih =>
    rw [Sem.wp_update] at h ⊢
    exact ⟨h.1,ih () h.2 (x.upd hf)⟩
  | alive a hk ih=>rw [Sem.wp_loadIfAlive] at h ⊢;exact ih _ h x
  | alloc o hk ih=>rw [Sem.wp_alloc] at h ⊢;exact ih _ h x.push
  | ask hk ih=>rw [Sem.wp_ask] at h ⊢;exact ih _ h x
  | stack hk ih=>rw [Sem.wp_stack] at h ⊢;exact ih _ h x
  | thread hk ih=>rw [Sem.wp_thread] at h ⊢;exact ih _ h x
theorem wp_nr {M:Model}{Γ:PySem.Ctx}{t:Sem α}(k:KD t){Q:α→Pos→Shared→Prop}{E E':Value→Pos→Shared→Prop}{p:Pos}{s:Shared}(h:Sem.wp M Γ t Q E p s):Sem.wp M Γ t Q E' p s:=by
  induction k generalizing p s with
  | pure a=>rw [Sem.wp_pure] at h ⊢;exact h
  | uns w=>rw [Sem.wp_unsupported] at h;exact h.elim
  | «at» q hk ih=>rw [Sem.wp_at] at h ⊢;exact ih () h
  | load a q hk ih =>
    rw [Sem.wp_load] at h ⊢
    obtain ⟨o,h1,h2⟩:=h
    exact ⟨o,h1,ih o h2⟩
  | upd a q hf hk ih =>
    rw [Sem.wp_update] at h ⊢
    exact ⟨h.1,ih () h.2⟩
  | alive a hk ih=>rw [Sem.wp_loadIfAlive] at h ⊢;exact ih _ h
  | alloc o hk ih=>rw [Sem.wp_alloc] at h ⊢;exact ih _ h
  | ask hk ih=>rw [Sem.wp_ask] at h ⊢;exact ih _ h
  | stack hk ih=>rw [Sem.wp_stack] at h ⊢;exact ih _ h
  | thread hk ih=>rw [Sem.wp_thread] at h ⊢;exact ih _ h
theorem wpAny_kd {M:Model}{A:Around}{e:Addr}{d:Option Addr}{t:Sem α}(k:KD t){Q:α→Shared→Prop}{E:Value→Shared→Prop}{s:Shared}(h:wpAny M A t Q E s)(x:DictAt s.heap e d) :
    wpAny M A t (fun a s'=>Q a s'∧DictAt s'.heap e d) (fun v s'=>E v s'∧DictAt s'.heap e d) s:=fun Γ p hΓ=>wp_kd k (h Γ p hΓ) x
end
theorem kd_load (a:Addr):KD (load a):=.load a none .pure
theorem kd_stack:KD stack:=.stack .pure
theorem kd_fieldsOf (v:Value):KD (fieldsOf v):=by
  unfold fieldsOf
  split
  · refine kd_bind (kd_load _) fun o=>?_
    split
    · exact .pure _
    · exact .uns _
  · exact .uns _
theorem kd_field (v:Value)(i:Nat):KD (field v i):=by
  unfold field
  refine kd_bind (kd_fieldsOf v) fun a=>?_
  split
  · exact .pure _
  · exact .uns _
theorem mapFields_ok {f:Array Value→Array Value}(o:Obj):(Obj.mapFields f o).dict=o.dict∧(o.data≠.freed→(Obj.mapFields f o).data≠.freed):=by
  obtain ⟨c,d,da,sl⟩:=o
  cases da<;>exact ⟨rfl,fun h=>by first | exact h | (intro z;cases z)⟩
theorem kd_setField (v:Value)(i:Nat)(x:Value):KD (setField v i x):=by
  unfold setField
  split
  · unfold updateField
    refine kd_bind (kd_load _) fun o=>?_
    split
    · split
      · exact .upd _ _ mapFields_ok .pure
      · exact .uns _
    · exact .uns _
  · exact .uns _
theorem kd_setFlight (v:Value)(f:Option Addr):KD (setFlight v f):=by
  unfold setFlight
  refine kd_bind (kd_field v 1) fun a=>?_
  split
  · exact kd_setField _ _ _
  · exact .pure _
theorem kd_back (env:Env)(b:Bool)(l:List Env):KD (keptBack env b l):=by
  unfold keptBack
  split
  · split
    · exact .pure _
    · unfold underTheClaimsCaller
      exact kd_bind (kd_bind kd_stack fun _=>.pure _) fun _=>.pure _
  · exact .pure _
theorem kd_import (env:Env)(l:List Env):KD (behindIsImport env l):=by
  unfold behindIsImport
  split
  · exact .pure _
  · split
    · exact .pure _
    · exact kd_bind (kd_field _ _) fun _=>.pure _
theorem kd_ready:∀ l:List Env,KD (readyFrames l)
  | []=>.pure _
  | env::outer=>by
    unfold readyFrames
    split
    · refine kd_bind (kd_load _) fun o=>?_
      split
      · exact .pure _
      · exact kd_bind (kd_import _ _) fun _=>kd_bind (kd_back _ _ _) fun _=>kd_bind (.upd _ _ (fun o=>⟨rfl,fun h=>h⟩) .pure) fun _=>kd_ready outer
    · exact .uns _
theorem kd_frameOf (env:Env):KD (PySem.frameOf env):=by
  unfold PySem.frameOf frameEnvs
  refine kd_bind (kd_bind kd_stack fun _=>.pure _) fun l=>kd_bind ?_ fun r=>?_
  · unfold frameObject
    split
    · exact .pure _
    · exact kd_bind (kd_ready _) fun _=>.pure _
  · split
    · exact .pure _
    · exact .uns _
theorem kd_place (f:Addr)(b:Bool):KD (entryPlaceOf f b):=by
  unfold entryPlaceOf
  refine kd_bind kd_stack fun l=>?_
  split<;>exact .pure _
theorem kd_entry (a b c d e:Value)(l:List Value):KD (EntryCells.newEntry a b c d e l):=by
  unfold EntryCells.newEntry newFields newObj newObjAsIs
  generalize ([a,b,c,d,e]++if l.isEmpty=true then List.replicate 6 Value.none else l)=zs
  have j:∀ u:Unit,KD (do
      let z ← PySem.alloc { cls:=Value.type "traceback",data:=Data.fields zs.toArray }
      pure (Value.ref z)):=fun _=>kd_bind (.alloc _ .pure) fun _=>.pure _
  dsimp only
  split
  · exact kd_bind (.uns _) fun r=>j r
  · exact j ()
theorem kd_note (e:Value) (env:Env):KD (noteFrame e env):=by
  unfold noteFrame
  split
  · refine kd_bind (kd_field _ _) fun h=>?_
    have j:∀ (u:Unit) (f:Addr),KD (do
        let a ← PySem.frameOf env
        let b ← entryPlaceOf f (h != Value.none)
        let c ← EntryCells.newEntry h a Value.none (rawInt f) Value.none b
        setField e 1 c):=fun _ f=>kd_bind (kd_frameOf _) fun _=>kd_bind (kd_place _ _) fun _=>kd_bind (kd_entry _ _ _ _ _ _) fun _=>kd_setField _ _ _
    dsimp only
    split
    · refine kd_bind (kd_field _ _) fun g=>?_
      split
      · exact .pure _
      · exact kd_bind (kd_setField _ _ _) fun r=>j r _
    · exact j () _
  · exact .uns _
theorem kd_leaving (e:Value)(env:Env):KD (leaving env e):=by
  unfold leaving
  exact kd_bind (kd_note _ _) fun _=>kd_setFlight _ _
end L2
namespace L2
open PySem PySem.Spec PyProof.Rows
section
variable {X:Cx}{pins:List (Addr × Obj)}{σ:St}{H H':Hp}{s:Shared}{p:Addr}{φ:Heap→Prop}
end
def CXD (P:Program)(w:World):CXT:=fun outer H s E e s'=>∃ (ea C:Addr) (a0:Value) (B:Heap) (H':Hp) (dx:Option Addr),
  e=.ref ea∧s'.os=s.os∧AllBare s'.gens∧Un (frs outer) [] H H' s.heap s'.heap∧HOk P w H' s'.heap∧Heap.FlyingW B outer ea (.ref C) a0 s'.heap∧Cov outer s.heap H' B∧DictAt s'.heap ea dx∧E (.ref C) dx H'
section
variable {P:Program}{w:World}{K:PySem.W.Frag}{mg:Str→Option Value}{base:Heap}{N:List Str}{qual:Str}{scope:Scope}{f:Addr}{cd:Value}{A:Around}{outer:List Env}{s0:Shared}{H0:Hp}{E:XK}
theorem passD:Passes (CXD P w) (cxOf (CXD P w) P w K mg base N qual scope f cd A outer s0 H0 E) E:=by
  rintro pins σ H s e s' I ⟨ea,C,a0,B,H',dx,rfl,os,bare,un,hok,fl,c,dd,q⟩
  have I':Inv (cxOf (CXD P w) P w K mg base N qual scope f cd A outer s0 H0 E) pins σ H' s':=I.call' os un hok bare fun b hb=>nomatch hb
  have c':Cov (envOfC qual scope s0.heap.objs.size f cd::outer) s0.heap H' B:=⟨fun b o e n=>by
    obtain ⟨o',e'⟩:=I.base.there b o e (fun z=>nomatch z)
    exact c.old b o' e' n,c.trk⟩
  have go:=wpAny_kd (kd_leaving (.ref ea) (envOfC qual scope s0.heap.objs.size f cd)) (wpAny_leaves_onW (M:=model P w) (E:=fun _ _=>False) (Q:=fun _ s2=>∃ h',s2={ s' with heap:=h' }∧Heap.FlyingW B outer ea (.ref C) a0 h'∧s'.heap.UpToSlots h') I.ok.frames rfl fl fun h' fl' us=>⟨h',rfl,fl',us⟩) dd
  refine wpAny_mono go (fun _ s2 z=>?_) fun _ _ z=>z.1.elim
  obtain ⟨⟨h',rfl,fl',us⟩,d2⟩:=z
  obtain ⟨un',hok'⟩:=I'.landed rfl fl'.1 fl.1 c' us
  exact ⟨ea,C,a0,B,H',dx,rfl,I'.os,bare,un',hok',fl',⟨fun b o e n=>c'.old b o e (I.frStack e n),c'.trk⟩,d2,q⟩
end
end L2
namespace L2
open PySem PySem.Spec PyProof.Rows
section
variable {X:Cx}{C M f:Addr}{fd:FuncData}{k:Nat}{ps:List Str}{sp:Sp}{E:XK}{CX:CXT}
end
section
variable {P:Program}{w:World}{A:Around}{E:Value→Shared→Prop}{s:Shared}{env:Env}
variable {nm q:Str}{C N:Addr}{bs bm:List Value}{hdc:Bool}{sn:List Str}{sub:List Value}{ab:Bool}{col:Option Bool}{dd:Option Addr}{k0 k1 k2 k3 k5:Option Value}{newId:String}
end
end L2
namespace L2
open PySem PySem.Spec PyProof.Rows
section
variable {P:Program}{w:World}{K:PySem.W.Frag}{mg:Str→Option Value}{base:Heap}{N:List Str}{qual:Str}{scope:Scope}{f:Addr}{cd:Value}{A:Around}{outer:List Env}{s0:Shared}{H0:Hp}{E:XK}
abbrev cxD (P:Program)(w:World)(K:PySem.W.Frag)(mg:Str→Option Value)(base:Heap)(N:List Str)(qual:Str)(scope:Scope)(f:Addr)(cd:Value)(A:Around)(outer:List Env)(s0:Shared)(H0:Hp)(E:XK):Cx:=cxOf (CXD P w) P w K mg base N qual scope f cd A outer s0 H0 E
def tRaiseX (C:Addr)(sp:Sp)(E:XK)(t:TA):TS:=fun _ σ H=>t σ H fun vs H1=>vs.length≤1000∧∀ ea,H1 ea=none→sp (.ref ea::vs) (upd H1 ea (excO ea C)) (fun v H2=>v=.non∧∃ dx,H2 ea=some (excH ea C dx)∧E (.ref C) (some dx) (del H2 ea)) E0
end
def FnR (P:Program)(w:World)(K:PySem.W.Frag)(mg:Str→Option Value)(base:Heap)(x:Str)(ps:List Str)(k:Nat)(sp:Sp):Prop :=
  ∃ f fd,FnOk P w K mg base (CXD P w) k f fd ps sp∧mg x=some (.ref f)∧PySem.W.keepIn K (.ref f)=true∧Binds K fd ps []
section
variable {P:Program}{w:World}{K:PySem.W.Frag}{mg:Str→Option Value}{base:Heap}
theorem FnR.of {x:Str}{st:Stmt}{N ps:List Str}{k:Nat}{sp:Sp}(d:DefAt K mg x st ps)(S:FnScope N ps (defScope st))(len:∀ vs H Q E,sp vs H Q E→vs.length=ps.length)
    (hbody:∀ (f:Addr) (cdv:Value) (A:Around) (outer:List Env) (s:Shared) (H:Hp) (vs:List V) (Q:VK) (E:XK),Room k (A.deeper (envOfC x (defScope st) s.heap.objs.size f cdv))→sp vs H Q E →
      ∃ t,PSs (cxD P w K mg base N x (defScope st) f cdv A outer s H E) (defBody st) t∧t { nx:=fun _ H'=>Q .non H',rt:=Q } (start N vs) H):FnR P w K mg base x ps (k+1) sp:=by
  obtain ⟨f,fd,F,m,b⟩:=d
  have kp:=F.kp
  obtain ⟨oc,od,kV,doc,pm,an,cdv,ct,osl,rfl,lk,hcd⟩:=F.ex
  exact ⟨f,_,fn_of lk hcd S len (hbody f cdv),m,kp,b⟩
theorem FnOk.calmD {k:Nat}{f:Addr}{fd:FuncData}{ps:List Str}{sp:Sp}(F:FnOk P w K mg base (CXD P w) k f fd ps sp):FnOk P w K mg base CX0 k f fd ps (fun vs H Q _=>sp vs H Q E0) :=
  ⟨fun vs H Q _ h=>F.len vs H Q E0 h,fun A outer s H args us vs Q _ hr he hb hv hs=>codeAny_mono (F.run A outer s H args us vs Q E0 hr he hb hv hs) fun r s' hq=>by
    cases r with
    | error e=>obtain ⟨_,_,_,_,_,_,_,_,_,_,_,_,_,_,q⟩:=hq;exact q.elim
    | ok fl=>cases fl<;>exact hq⟩
variable {N:List Str}{qual:Str}{scope:Scope}{f:Addr}{cd:Value}{A:Around}{outer:List Env}{s0:Shared}{H0:Hp}{E:XK}
theorem pe_callR {x:Str}{ps:List Str}{k:Nat}{sp:Sp}{e:Expr}{es:List Expr}{t:TA}{p pos:Pos}(F:FnR P w K mg base x ps k sp)(hr:Room k (A.deeper (envOfC qual scope s0.heap.objs.size f cd)))(hg:Gl (cxD P w K mg base N qual scope f cd A outer s0 H0 E) x)(ha:PA (cxD P w K mg base N qual scope f cd A outer s0 H0 E) (e::es) t)
    (hdb:(x==("__debug__":Str))=false:=by decide) (he:starEach (e::es) (envOfC qual scope s0.heap.objs.size f cd)=(false,eval e (envOfC qual scope s0.heap.objs.size f cd))::starEach es (envOfC qual scope s0.heap.objs.size f cd):=by rfl) (hpl:(backTo pos (starEach es (envOfC qual scope s0.heap.objs.size f cd))).any (·.1)=false:=by rfl) :
    PE (cxD P w K mg base N qual scope f cd A outer s0 H0 E) (.Call (.Name x p) (e::es) [] pos) (tCall sp [] E t):=by
  obtain ⟨f',fd,F,m,kp,b⟩:=F
  exact pe_call F hr hg m kp b .nil passD ha hdb he hpl
end
end L2
namespace L2
open PySem PySem.Spec PyProof.Rows
def XPD (X:Cx)(pins:List (Addr × Obj))(σ:St)(W:Addr→Option Addr→Hp→Prop)(e:Value)(s':Shared):Prop:=∃ (ea C:Addr) (a0:Value) (B:Heap) (H':Hp) (dx:Option Addr),
  e=.ref ea∧Inv X pins σ H' s'∧Heap.FlyingW B X.stack ea (.ref C) a0 s'.heap∧Cov X.stack X.s₀.heap H' B∧(∀ p∈X.pn++pins,∃ o,B.get? p.1=some o)∧DictAt s'.heap ea dx∧W C dx H'
abbrev WX:=Addr→Option Addr→Hp→Prop
def PEX (X:Cx)(e:Expr)(t:WX→TE):Prop :=
  ∀ (pins:List (Addr × Obj)) (s:Shared) (σ:St) (H:Hp) (Q:VK) (W:WX),Inv X pins σ H s→t W σ H Q→wpAny (model X.prog X.w) X.A (eval e X.env) (EP X pins σ Q) (XPD X pins σ W) s
abbrev TXD:=(Addr→Option Addr→St→Hp→Prop)→TS
def PXD (X:Cx)(st:Stmt)(t:TXD):Prop :=
  ∀ (pins:List (Addr × Obj)) (s:Shared) (σ:St) (H:Hp) (D:Ends) (W:Addr→Option Addr→St→Hp→Prop),Inv X pins σ H s→t W D σ H→wpAny (model X.prog X.w) X.A (exec st X.env) (SP X pins D) (fun e s'=>∃ σ',XPD X pins σ' (fun C dx=>W C dx σ') e s') s
def PXDs (X:Cx)(sts:List Stmt)(t:TXD):Prop :=
  ∀ (pins:List (Addr × Obj)) (s:Shared) (σ:St) (H:Hp) (D:Ends) (W:Addr→Option Addr→St→Hp→Prop),Inv X pins σ H s→t W D σ H→wpAny (model X.prog X.w) X.A (execs sts X.env) (SP X pins D) (fun e s'=>∃ σ',XPD X pins σ' (fun C dx=>W C dx σ') e s') s
section
variable {X:Cx}{pins:List (Addr × Obj)}{σ:St}{H:Hp}{s:Shared}{k:Nat}{f:Addr}{fd:FuncData}{ps:List Str}{sp:Sp}
theorem Inv.toXPD {E:XK}{W:WX}{e:Value}{s':Shared}(I:Inv X pins σ H s)(hex:X.ex=[])(q:CXD X.prog X.w X.stack H s E e s')(hW:∀ C dx H',E (.ref C) dx H'→W C dx H'):XPD X pins σ W e s':=by
  obtain ⟨ea,C,a0,B,H',dx,rfl,os,bare,un,hok,fl,c,dd,q⟩:=q
  refine ⟨ea,C,a0,B,H',dx,rfl,I.call' os un hok bare (fun b hb=>(nomatch hb)),fl,⟨fun b o e n=>?_,c.trk⟩,fun p hp=>?_,dd,hW C dx H' q⟩
  · obtain ⟨o',e'⟩:=I.base.there b o e (fun z=>by rw [hex] at z;cases z)
    exact c.old b o' e' n
  · obtain ⟨e1,_,n1,n2,_⟩:=I.pin p hp
    refine c.old p.1 _ e1 fun hm=>?_
    rcases List.mem_cons.mp (I.stkSub _ hm) with z | z
    · exact n1 z
    · exact n2 z
def eW (W:WX):XK:=fun cls dx H3=>∃ C',cls=.ref C'∧W C' dx H3
end
section
variable {X:Cx}{st:Stmt}{sts rest:List Stmt}{t u:TXD}{pos:Pos}
theorem pxd_nil:PXDs X [] (fun _=>tNext):=fun _ _ σ H _ _ I h=>wpAny_execs_nil ⟨σ,H,I,h⟩
theorem pxd_cons (h1:PXD X st t)(h2:PXDs X rest u):PXDs X (st::rest) (fun W=>tSeq (t W) (u W)):=by
  intro pins s σ H D W I h
  refine wpAny_execs_cons (thn (h1 pins s σ H { D with nx:=u W D } W I h) fun f s1 q=>?_)
  cases f with
  | next =>
    obtain ⟨σ',H',I',q⟩:=q
    exact h2 pins s1 σ' H' D W I' q
  | ret v=>exact q
  | brk=>exact q
  | cont=>exact q
theorem pxd_expr {e:Expr}{t:WX→TE}(he:PEX X e t)(hsw:swapsWith e none pos.line X.env=pure false:=by rfl):PXD X (.Expr e pos) (fun W D σ H=>t (fun C dx H'=>W C dx σ H') σ H fun _ H1=>D.nx σ H1):=by
  intro pins s σ H D W I h
  refine wpAny_Expr_any (Q:=SP X pins D) (wpAny_mono (he pins s σ H _ _ I h) (fun u s1 ⟨v,H1,I1,r,q⟩=>⟨σ,H1,I1,q⟩) fun e s1 z=>⟨σ,z⟩) I.quiet hsw
end
end L2
namespace L2
open PySem PySem.Spec PyProof.Rows
structure Caught (X:Cx)(pins:List (Addr × Obj))(σ:St)(H:Hp)(s:Shared)(ea C:Addr)(a0:Value)(B:Heap)(dx:Option Addr):Prop where
  inv:Inv X pins σ H s
  fl:Heap.FlyingW B X.stack ea (.ref C) a0 s.heap
  cov:Cov X.stack X.s₀.heap H B
  pn:∀ p∈X.pn++pins,∃ o,B.get? p.1=some o
  dd:DictAt s.heap ea dx
abbrev TH:=Addr→Addr→Option Addr→TS
def PH (X:Cx)(hs:List ExceptHandler)(t:TH):Prop :=
  ∀ (pins:List (Addr × Obj)) (s:Shared) (σ:St) (H:Hp) (D:Ends) (ea C:Addr) (a0:Value) (B:Heap) (dx:Option Addr),Caught X pins σ H s ea C a0 B dx→t ea C dx D σ H→wpAny (model X.prog X.w) X.A (handleBy (.ref ea) X.env hs) (SP X pins D) X.xe s
def tTryD (tb:TXD)(th:TH):TS:=fun D σ H=>tb (fun C dx σ1 H1=>∀ ea,H1 ea=none→th ea C dx D σ1 H1) D σ H
section
variable {X:Cx}{pins:List (Addr × Obj)}{σ:St}{H:Hp}{s:Shared}{ea C:Addr}{a0:Value}{B:Heap}{dx:Option Addr}
theorem Caught.free (c:Caught X pins σ H s ea C a0 B dx):H ea=none:=by
  cases z:H ea with
  | none=>rfl
  | some u =>
    obtain ⟨o,ho⟩:=c.cov.trk ea u z
    rw [c.fl.2.1] at ho
    cases ho
theorem Caught.move {h:Heap}(c:Caught X pins σ H s ea C a0 B dx)(hex:X.ex=[])(fl:Heap.FlyingW B X.stack ea (.ref C) a0 h)(us:s.heap.UpToSlots h)(d:DictAt h ea dx):Caught X pins σ H { s with heap:=h } ea C a0 B dx :=
  ⟨c.inv.landed2 hex fl.1 c.fl.1 c.cov c.pn us,fl,c.cov,c.pn,d⟩
theorem Caught.apart {oe:Obj}{vs:Array Value}(c:Caught X pins σ H s ea C a0 B dx)(hst:X.stack=X.env::X.outer)(hfr:X.env.frame=some X.env.locals)(he:s.heap.get? ea=some oe)(hd:oe.data=.fields vs):ea≠X.env.locals∧ea∉X.fs:=by
  have hn:ea∉frs X.stack:=fun hm=>by
    obtain ⟨_,o,ho,hno⟩:=c.inv.stack.mem hm
    rw [he] at ho
    cases ho
    exact hno _ hd
  rw [hst] at hn
  unfold frs at hn
  rw [List.filterMap_cons,hfr] at hn
  exact ⟨fun z=>hn (z ▸ .head _),fun z=>hn (.tail _ z)⟩
theorem ps_tryD {body:List Stmt}{h0:ExceptHandler}{hs:List ExceptHandler}{tb:TXD}{th:TH}{pos:Pos}(hb:PXDs X body tb)(hh:PH X (h0::hs) th)(hex:X.ex=[]:=by rfl)(hst:X.stack=X.env::X.outer:=by rfl)(hfr:X.env.frame=some X.env.locals:=by rfl) :
    PS X (.Try body (h0::hs) [] [] pos) (tTryD tb th):=by
  intro pins s σ H D I h
  refine wpAny_Try_except (wpAny_mono (hb pins s σ H D _ I h) (fun f s1 hf=>?_) fun e s1 ⟨σ1,ea,C,a0,B,H1,dx,ee,I1,fl,cov,hp,dd,q⟩=>?_)
  · cases f with
    | next=>exact wpAny_execs_nil hf
    | ret v=>exact hf
    | brk=>exact hf
    | cont=>exact hf
  · subst ee
    have c1:Caught X pins σ1 H1 s1 ea C a0 B dx:=⟨I1,fl,cov,hp,dd⟩
    have fl':Heap.FlyingW B (X.env::X.outer) ea (.ref C) a0 s1.heap:=hst ▸ fl
    refine wpAny_mono (wpAny_kd (kd_note _ _) (wpAny_looks_onW (Q:=fun _ z=>∃ h2,z={ s1 with heap:=h2 }∧Heap.HeldW B (X.env::X.outer) ea (.ref C) a0 X.env.locals h2∧s1.heap.UpToSlots h2) (by rw [← hst];exact I1.ok.frames) hfr fl' fun h2 held us=>⟨h2,rfl,held,us⟩) dd) (fun _ z hz=>?_) fun _ _ z=>z.1
    obtain ⟨⟨h2,rfl,held,us1⟩,d2⟩:=hz
    refine wpAny_mono (wpAny_kd (kd_setFlight _ _) (wpAny_landsW (s:={ s1 with heap:=h2 }) (Q:=fun _ z=>∃ h3,z={ s1 with heap:=h3 }∧Heap.FlyingW B (X.env::X.outer) ea (.ref C) a0 h3∧h2.UpToSlots h3) held fun h3 fl3 us=>⟨h3,rfl,fl3,us⟩) d2) (fun _ z hz=>?_) fun _ _ z=>z.1
    obtain ⟨⟨h3,rfl,fl3,us2⟩,d3⟩:=hz
    exact hh pins _ σ1 H1 D ea C a0 B dx (c1.move hex (hst ▸ fl3) (us1.trans us2) d3) (q ea c1.free)
theorem ph_nil:PH X [] (fun _ _ _ _ _ _=>False):=fun _ _ _ _ _ _ _ _ _ _ _ h=>h.elim
def thAs (i:Nat)(K:PySem.W.Frag)(S:Addr)(ts tr:TH):TH:=fun ea C dx D σ H=>∃ b,PySem.W.exmOne K (.ref C) (.ref S)=some b∧if b=true then ts ea C dx { nx:=fun σ2 H2=>D.nx (σ2.set i none) H2,rt:=D.rt } (σ.set i (some (.ref ea))) H else tr ea C dx D σ H
theorem ph_as {i:Nat}{S:Addr}{x n:Str}{suite:List Stmt}{b₀:Stmt}{rest:List ExceptHandler}{ts tr:TH}{np hpos:Pos}(K:PySem.W.Frag)(hm:X.mg x=some (.ref S))(hs:∀ (ea C:Addr) (dx:Option Addr) (oe:Obj) (vs:Array Value),oe.cls=.ref C→oe.data=.fields vs→oe.dict=dx→PSs (inEx X ea oe) (b₀::suite) (ts ea C dx))(hr:PH X rest tr)
    (hN:X.N.Nodup) (hi:X.N[i]?=some n) (hl:X.env.kindOf n=some .local) (hg:Gl X x) (hK:X.K=K:=by rfl) (hex:X.ex=[]:=by rfl) (hst:X.stack=X.env::X.outer:=by rfl) (hfr:X.env.frame=some X.env.locals:=by rfl) (hdb:(x==("__debug__":Str))=false:=by decide) :
    PH X (.ExceptHandler (some (.Name x np)) (some n) (b₀::suite) hpos::rest) (thAs i K S ts tr):=by
  subst hK
  intro pins s σ H D ea C a0 B dx c h
  obtain ⟨b,hx,q⟩:=h
  obtain ⟨oe,vs,he,hc,hd,_⟩:=c.fl.first
  obtain ⟨n1,n2⟩:=c.apart hst hfr he hd
  have I3':=c.inv.inExc he c.free n1 n2 fun v z=>by rw [hd] at z;cases z
  refine wpAny_handleBy_cons (codeAny_handlers_test (ld_glob (X:=inEx X ea oe) I3' hg hm ?_ hdb)) (by intro z;cases z)
  have LT:PySem.W.Looks (model X.prog X.w) s.heap (typeOf (.ref ea)) (.ref C):=fun A' Q' E' s' k z=>by
    unfold typeOf
    exact wpAny_bind (wpAny_loadPart (k _ _ he) (by rw [hc];exact wpAny_pure z))
  refine (PySem.W.exm_one (M:=model X.prog X.w) c.inv.kIn LT hx).at ?_
  cases b with
  | false=>exact hr pins _ σ H D ea C a0 B dx c q
  | true =>
    show codeAny _ _ (.handlers _ _ _) _ _
    rw [if_pos rfl] at q
    refine codeAny_handlers_suite_as (wpAny_mono (wpAny_kd (kd_setFlight _ _) (lands_againW (Q:=fun _ z=>∃ h4,z={ s with heap:=h4 }∧Heap.FlyingW B X.stack ea (.ref C) a0 h4∧s.heap.UpToSlots h4) c.fl fun h4 fl4 us=>⟨h4,rfl,fl4,us⟩) c.dd) (fun _ z hz=>?_) fun _ _ z=>z.1)
    obtain ⟨⟨h4,rfl,fl4,us4⟩,d4⟩:=hz
    have c4:=c.move hex fl4 us4 d4
    obtain ⟨oe4,vs4,he4,hc4,hd4,_⟩:=fl4.first
    obtain ⟨n1,n2⟩:=c4.apart hst hfr he4 hd4
    have I4':=c4.inv.inExc he4 c4.free n1 n2 fun v z=>by rw [hd4] at z;cases z
    have hdx:oe4.dict=dx:=by
      obtain ⟨o,e1,e2⟩:=d4
      rw [show ({ s with heap:=h4 }:Shared).heap.get? ea=some oe4 from he4] at e1
      cases e1
      exact e2
    refine store_ok (X:=inEx X ea oe4) I4' hN hi (.inl hl) (v:=V.ref ea) (u:=Value.ref ea) rfl (fun s5 I5=>?_) (.inr hl)
    refine wpAny_mono (hs ea C dx oe4 vs4 hc4 hd4 hdx pins s5 _ H _ I5 q) (fun f s6 z=>?_) fun _ _ z=>z.elim
    cases f with
    | next =>
      obtain ⟨σ2,H2,I6,qq⟩:=z
      have I7:=I6.outExc c.inv.ok
      obtain ⟨m,hn,hl'⟩:=I7.loc
      exact wpAny_nameGoes_keeps hl hn (by rw [c.inv.ok.kind];rfl) fun h7 v hn7 sb=>⟨σ2.set i none,H2,I7.gone hN hi hn hl' hn7 sb,qq⟩
    | ret u =>
      obtain ⟨v,σ2,H2,I6,rv,qq⟩:=z
      have I7:=I6.outExc c.inv.ok
      obtain ⟨m,hn,hl'⟩:=I7.loc
      exact wpAny_nameGoes_keeps hl hn (by rw [c.inv.ok.kind];rfl) fun h7 v' hn7 sb=>⟨v,σ2.set i none,H2,I7.gone hN hi hn hl' hn7 sb,rv,qq⟩
    | brk=>obtain ⟨_,_,_,z⟩:=z;exact z.elim
    | cont=>obtain ⟨_,_,_,z⟩:=z;exact z.elim
def thNo (K:PySem.W.Frag)(S:Addr)(ts tr:TH):TH:=fun ea C dx D σ H=>∃ b,PySem.W.exmOne K (.ref C) (.ref S)=some b∧if b=true then ts ea C dx { nx:=D.nx,rt:=D.rt } σ H else tr ea C dx D σ H
theorem ph_no {S:Addr}{x:Str}{suite:List Stmt}{b₀:Stmt}{rest:List ExceptHandler}{ts tr:TH}{np hpos:Pos}(K:PySem.W.Frag)(hm:X.mg x=some (.ref S))(hs:∀ (ea C:Addr) (dx:Option Addr) (oe:Obj) (vs:Array Value),oe.cls=.ref C→oe.data=.fields vs→oe.dict=dx→PSs (inEx X ea oe) (b₀::suite) (ts ea C dx))(hr:PH X rest tr)
    (hg:Gl X x) (hK:X.K=K:=by rfl) (hex:X.ex=[]:=by rfl) (hst:X.stack=X.env::X.outer:=by rfl) (hfr:X.env.frame=some X.env.locals:=by rfl) (hdb:(x==("__debug__":Str))=false:=by decide) :
    PH X (.ExceptHandler (some (.Name x np)) none (b₀::suite) hpos::rest) (thNo K S ts tr):=by
  subst hK
  intro pins s σ H D ea C a0 B dx c h
  obtain ⟨b,hx,q⟩:=h
  obtain ⟨oe,vs,he,hc,hd,_⟩:=c.fl.first
  obtain ⟨n1,n2⟩:=c.apart hst hfr he hd
  have I3':=c.inv.inExc he c.free n1 n2 fun v z=>by rw [hd] at z;cases z
  refine wpAny_handleBy_cons (codeAny_handlers_test (ld_glob (X:=inEx X ea oe) I3' hg hm ?_ hdb)) (by intro z;cases z)
  have LT:PySem.W.Looks (model X.prog X.w) s.heap (typeOf (.ref ea)) (.ref C):=fun A' Q' E' s' k z=>by
    unfold typeOf
    exact wpAny_bind (wpAny_loadPart (k _ _ he) (by rw [hc];exact wpAny_pure z))
  refine (PySem.W.exm_one (M:=model X.prog X.w) c.inv.kIn LT hx).at ?_
  cases b with
  | false=>exact hr pins _ σ H D ea C a0 B dx c q
  | true =>
    show codeAny _ _ (.handlers _ _ _) _ _
    rw [if_pos rfl] at q
    refine codeAny_handlers_suite (wpAny_mono (wpAny_kd (kd_setFlight _ _) (lands_againW (Q:=fun _ z=>∃ h4,z={ s with heap:=h4 }∧Heap.FlyingW B X.stack ea (.ref C) a0 h4∧s.heap.UpToSlots h4) c.fl fun h4 fl4 us=>⟨h4,rfl,fl4,us⟩) c.dd) (fun _ z hz=>?_) fun _ _ z=>z.1)
    obtain ⟨⟨h4,rfl,fl4,us4⟩,d4⟩:=hz
    have c4:=c.move hex fl4 us4 d4
    obtain ⟨oe4,vs4,he4,hc4,hd4,_⟩:=fl4.first
    obtain ⟨n1,n2⟩:=c4.apart hst hfr he4 hd4
    have I4':=c4.inv.inExc he4 c4.free n1 n2 fun v z=>by rw [hd4] at z;cases z
    have hdx:oe4.dict=dx:=by
      obtain ⟨o,e1,e2⟩:=d4
      rw [show ({ s with heap:=h4 }:Shared).heap.get? ea=some oe4 from he4] at e1
      cases e1
      exact e2
    refine wpAny_mono (hs ea C dx oe4 vs4 hc4 hd4 hdx pins _ _ H _ I4' q) (fun f s6 z=>?_) fun _ _ z=>z.elim
    cases f with
    | next =>
      obtain ⟨σ2,H2,I6,qq⟩:=z
      exact ⟨σ2,H2,I6.outExc c.inv.ok,qq⟩
    | ret u =>
      obtain ⟨v,σ2,H2,I6,rv,qq⟩:=z
      exact ⟨v,σ2,H2,I6.outExc c.inv.ok,rv,qq⟩
    | brk=>obtain ⟨_,_,_,z⟩:=z;exact z.elim
    | cont=>obtain ⟨_,_,_,z⟩:=z;exact z.elim
end
end L2
namespace L2
open PySem PySem.Spec PyProof.Rows Builtin Builtin.ObjectAttr PySem.W
section
variable {prog:Program}{w:World}{A:Around}{E:Value→Shared→Prop}{s:Shared}{K:Frag}{C e dx:Addr}{oe:Obj}{vs:Array Value}{name:Str}{v:Value}
end
section
variable {X:Cx}{o:Expr}{f:Str}{ta:TE}{pos:Pos}{ea C:Addr}{oe:Obj}{vs:Array Value}{dx:Option Addr}
def rIsiV (K:Frag)(ea C:Addr):List V→Hp→VK→Prop:=fun xs H Q=>∃ y c b,xs=[.ref ea,y]∧vOf y=some c∧EX.XIsi K C∧kitOne K (.ref C) c=some b∧Q (.bl b) H
theorem call_isiV (K:Frag)(hc:oe.cls=.ref C)(hK:X.K=K:=by rfl):CallR (inEx X ea oe) (.builtin "isinstance") (rIsiV K ea C):=by
  subst hK
  intro pins s σ H xs us Q I r h
  obtain ⟨y,c,b,rfl,hy,Z,hb,q⟩:=h
  obtain ⟨u,v,rfl,ru,rv⟩:=r.two
  have ev:v=c:=by
    cases y with
    | ty n=>cases (show v=Value.type n from rv);exact Option.some.inj hy
    | ref a=>cases (show v=Value.ref a from rv);exact Option.some.inj hy
    | _=>cases hy
  subst ev
  cases ru
  have hp:=(I.pin (ea,oe) (List.mem_append_left _ (.head _))).1
  exact kia_one (EX.kitx_exc Z hc) I.kIn hp hb (by intro z;cases z) fun tk=>⟨.bl b,H,I.kept (t':=tk) fun _ _ e=>e,rfl,q⟩
end
end L2
namespace L2
open PySem PySem.Spec PyProof.Rows
section
variable {P:Program}{w:World}{K:PySem.W.Frag}{mg:Str→Option Value}{base:Heap}{N:List Str}{qual:Str}{scope:Scope}{f:Addr}{cd:Value}{A:Around}{outer:List Env}{s0:Shared}{H0:Hp}{E:XK}
theorem raiseP {pins:List (Addr × Obj)}{σ:St}{H:Hp}{s:Shared}{h1:Heap}{ea C:Addr}{args:List Value}(I:Inv (cxD P w K mg base N qual scope f cd A outer s0 H0 E) pins σ H s)(hx:Heap.MadeExcOf s.heap h1 ea (.ref C) args)(q:E (.ref C) none H) :
    (cxD P w K mg base N qual scope f cd A outer s0 H0 E).xe (.ref ea) { s with heap:=h1 }:=by
  have hin:∀ env∈(envOfC qual scope s0.heap.objs.size f cd::outer),∀ b,env.frame=some b→b∈frs (envOfC qual scope s0.heap.objs.size f cd::outer):=fun env he b hb=>List.mem_filterMap.mpr ⟨env,he,hb⟩
  have sB:(PySem.W.hideAll s.heap (frs (envOfC qual scope s0.heap.objs.size f cd::outer))).StaysIn s.heap:=fun b o e=>PySem.W.of_hideAll _ e
  have c:Cov (envOfC qual scope s0.heap.objs.size f cd::outer) s0.heap H (PySem.W.hideAll s.heap (frs (envOfC qual scope s0.heap.objs.size f cd::outer))):=⟨fun b o e n=>by
    obtain ⟨o',e'⟩:=I.base.there b o e (fun z=>nomatch z)
    exact ⟨o',PySem.W.hideAll_get _ e' n⟩,fun b u e=>by
    obtain ⟨o,ho⟩:=(I.hok b u e).there
    refine ⟨o,PySem.W.hideAll_get _ ho fun hm=>?_⟩
    rw [I.stkFree b hm] at e
    cases e⟩
  obtain ⟨t0,ge,_,_⟩:=id hx.there
  have go:=wpAny_kd (kd_leaving (.ref ea) (envOfC qual scope s0.heap.objs.size f cd)) (wpAny_leaves_madeW (M:=model P w) (E:=fun _ _=>False) (s:={ s with heap:=h1 }) (base:=PySem.W.hideAll s.heap (frs (envOfC qual scope s0.heap.objs.size f cd::outer))) (Q:=fun _ z=>∃ h' t,z={ s with heap:=h' }∧Heap.FlyingW (PySem.W.hideAll s.heap (frs (envOfC qual scope s0.heap.objs.size f cd::outer))) outer ea (.ref C) (.ref t) h'∧h1.UpToSlots h') I.ok.frames rfl sB (PySem.W.funFrames_hide I.stack hin) hx fun h' t fl tup _ us=>⟨h',t,rfl,fl,us⟩) (e:=ea) (d:=none) ⟨_,ge,rfl⟩
  refine wpAny_mono go (fun _ s2 z=>?_) fun _ _ z=>z.1.elim
  obtain ⟨⟨h',t,rfl,fl,us⟩,d2⟩:=z
  obtain ⟨un',hok'⟩:=I.landed rfl fl.1 sB c ((Heap.UpToSlots.of_keeps hx.keeps).trans us)
  exact ⟨ea,C,.ref t,_,H,none,rfl,I.os,I.bare,un',hok',fl,⟨fun b o e n=>c.old b o e (I.frStack e n),c.trk⟩,d2,q⟩
theorem ps_raiseP {x:Str}{C:Addr}{e:Expr}{te:TE}{np cpos pos:Pos}(c:XCls K C)(hm:mg x=some (.ref C))(hg:Gl (cxD P w K mg base N qual scope f cd A outer s0 H0 E) x)(he:PE (cxD P w K mg base N qual scope f cd A outer s0 H0 E) e te)(hdb:(x==("__debug__":Str))=false:=by decide)
    (hs:starEach [e] (cxD P w K mg base N qual scope f cd A outer s0 H0 E).env=[(false,eval e (cxD P w K mg base N qual scope f cd A outer s0 H0 E).env)]:=by rfl) :
    PS (cxD P w K mg base N qual scope f cd A outer s0 H0 E) (.Raise (some (.Call (.Name x np) [e] [] cpos)) none pos) (tRaise C E te):=by
  intro pins s σ H D I h
  obtain ⟨nm,qn,Nn,bs,bm,hd,sn,sub,ab,col,dd,k0,k1,k2,k3,k5,mN,hC,hN,hni,T⟩:=c.obj I.ok.mod.kin
  refine wpAny_Raise_call_subU (nm:=nm) (q:=qn) (N:=Nn) (bs:=bs) (bm:=bm) (hdct:=hd) (sn:=sn) (sub:=sub) (ab:=ab) (col:=col) (dd:=dd) (k0:=k0) (k1:=k1) (k2:=k2) (k3:=k3) (k5:=k5) (newId:="ValueError.__new__") F.excBase_ValueError (by decide +kernel) F.excBase_ValueError (T.hasType (by decide +kernel)) (I.ok.hd rfl) (by rw [hs];rfl) hni (ld_glob I hg hm ⟨rfl,?_⟩ hdb)
  rw [hs]
  refine Calls.evalArgs_plain ?_
  show wpAny _ _ (spliced ((false,eval e _)::backTo cpos [])) _ _ s
  refine Calls.spliced_cons (thn (he pins s σ H _ I h) fun u s1 ⟨v,H1,I1,r1,q1⟩=>Calls.spliced_nil ?_)
  have kb:=I1.bk
  exact ⟨rfl,by show 1≤sizeLine;decide,kb _ _ hC,hN.keeps kb,T.keeps kb,fun h' ea hx=>raiseP I1 hx q1⟩
end
end L2
namespace L2
open PySem PySem.Spec PyProof.Rows
section
variable {M:Model}{Γ:PySem.Ctx}{p:Pos}{s:Shared}{E:Value→Pos→Shared→Prop}
theorem field_iff {e:Value} {i:Nat} {Q:Value→Pos→Shared→Prop}:Sem.wp M Γ (field e i) Q E p s↔∃ a o vs x,e=.ref a∧s.heap.get? a=some o∧o.data=.fields vs∧vs[i]?=some x∧Q x p s:=by
  constructor
  · intro h
    unfold field fieldsOf at h
    rw [Sem.wp_bind'] at h
    cases e with
    | ref a =>
      simp only [Sem.wp_bind',load,Sem.wp_load,Sem.wp_pure] at h
      obtain ⟨o,ho,h⟩:=h
      split at h
      · rename_i vs hd
        simp only [Sem.wp_pure'] at h
        split at h
        · rename_i x hx
          rw [Sem.wp_pure'] at h
          exact ⟨a,o,vs,x,rfl,ho,hd,hx,h⟩
        · simp only [unsupported,Sem.wp_unsupported] at h
      · simp only [unsupported,Sem.wp_unsupported] at h
    | _=>simp only [unsupported,Sem.wp_unsupported] at h
  · rintro ⟨a,o,vs,x,rfl,ho,hd,hx,q⟩
    unfold field fieldsOf
    simp only [Sem.wp_bind',load,Sem.wp_load,Sem.wp_pure]
    refine ⟨o,ho,?_⟩
    rw [hd]
    simp only [Sem.wp_pure',hx]
    exact q
theorem setField_iff {v:Value} {i:Nat} {x:Value} {Q:Unit→Pos→Shared→Prop}:Sem.wp M Γ (setField v i x) Q E p s↔∃ a o vs,v=.ref a∧s.heap.get? a=some o∧o.data=.fields vs∧i<vs.size∧Q () p { s with heap:=s.heap.update a (Obj.mapFields (·.setIfInBounds i x)) }:=by
  constructor
  · intro h
    unfold setField at h
    cases v with
    | ref a =>
      unfold updateField at h
      simp only [Sem.wp_bind',load,Sem.wp_load,Sem.wp_pure] at h
      obtain ⟨o,ho,h⟩:=h
      split at h
      · rename_i vs hd
        split at h
        · rename_i hi
          simp only [update,Sem.wp_update,Sem.wp_pure] at h
          exact ⟨a,o,vs,rfl,ho,hd,hi,h.2⟩
        · simp only [unsupported,Sem.wp_unsupported] at h
      · simp only [unsupported,Sem.wp_unsupported] at h
    | _=>simp only [unsupported,Sem.wp_unsupported] at h
  · rintro ⟨a,o,vs,rfl,ho,hd,hi,q⟩
    unfold setField updateField
    simp only [Sem.wp_bind',load,Sem.wp_load,Sem.wp_pure]
    refine ⟨o,ho,?_⟩
    rw [hd]
    simp only [hi,if_true,update,Sem.wp_update,Sem.wp_pure]
    exact ⟨by rw [ho];rfl,q⟩
end
def FldAt (h:Heap)(a:Addr)(i:Nat)(x:Value):Prop:=∃ o vs,h.get? a=some o∧o.data=.fields vs∧vs[i]?=some x
theorem FldAt.upd {h:Heap}{a b:Addr}{i j:Nat}{x y:Value}(f:FldAt h a i x)(n:i≠j):FldAt (h.update b (Obj.mapFields (·.setIfInBounds j y))) a i x:=by
  obtain ⟨o,vs,ho,hd,hx⟩:=f
  by_cases c:b=a
  · subst c
    have hd':=Obj.data_mapFields hd (·.setIfInBounds j y)
    exact ⟨_,_,Heap.get?_update_self _ ho (Obj.isFreed_of_fields hd'),hd',by rw [Array.getElem?_setIfInBounds_ne (Ne.symm n)];exact hx⟩
  · exact ⟨o,vs,(Heap.get?_update_other _ _ c).trans ho,hd,hx⟩
theorem FldAt.set {h:Heap}{a:Addr}{i:Nat}{y:Value}{o:Obj}{vs:Array Value}(ho:h.get? a=some o)(hd:o.data=.fields vs)(hi:i<vs.size):FldAt (h.update a (Obj.mapFields (·.setIfInBounds i y))) a i y:=by
  have hd':=Obj.data_mapFields hd (·.setIfInBounds i y)
  exact ⟨_,_,Heap.get?_update_self _ ho (Obj.isFreed_of_fields hd'),hd',by simp [hi]⟩
def Nt (h:Heap)(e:Value)(f:Addr):Prop:=∃ a T,e=.ref a∧FldAt h a 1 (.ref T)∧FldAt h T 3 (rawInt f)
section
variable {M:Model}{Γ:PySem.Ctx}{p:Pos}{s:Shared}{E:Value→Pos→Shared→Prop}
theorem entry_nt {a b c d e:Value}{l:List Value}{Q:Value→Pos→Shared→Prop}(h:Sem.wp M Γ (EntryCells.newEntry a b c d e l) Q E p s):Sem.wp M Γ (EntryCells.newEntry a b c d e l) (fun v p s1=>Q v p s1∧∃ T,v=.ref T∧FldAt s1.heap T 3 d) E p s:=by
  unfold EntryCells.newEntry newFields newObj newObjAsIs at h ⊢
  have hz:([a,b,c,d,e]++if l.isEmpty=true then List.replicate 6 Value.none else l)[3]?=some d:=rfl
  generalize ([a,b,c,d,e]++if l.isEmpty=true then List.replicate 6 Value.none else l)=zs at h hz ⊢
  try dsimp only at h
  try dsimp only
  split at h
  · simp only [Sem.wp_bind',unsupported,Sem.wp_unsupported] at h
  · rename_i hn
    rw [if_neg hn]
    simp only [Sem.wp_bind',PySem.alloc,Sem.wp_alloc,Sem.wp_pure,Sem.wp_pure'] at h ⊢
    exact ⟨h,_,rfl,_,_,Heap.get?_push_size _ rfl,rfl,by simpa using hz⟩
theorem jp_nt {a f:Addr}{hd:Value}{k:Bool}{env:Env}{Q:Unit→Pos→Shared→Prop}(h:Sem.wp M Γ (do
      let x ← PySem.frameOf env
      let b ← entryPlaceOf f k
      let c ← EntryCells.newEntry hd x Value.none (rawInt f) Value.none b
      setField (.ref a) 1 c) Q E p s):Sem.wp M Γ (do
      let x ← PySem.frameOf env
      let b ← entryPlaceOf f k
      let c ← EntryCells.newEntry hd x Value.none (rawInt f) Value.none b
      setField (.ref a) 1 c) (fun u p s1=>Q u p s1∧Nt s1.heap (.ref a) f) E p s:=by
  simp only [Sem.wp_bind'] at h ⊢
  refine Sem.wp_mono _ _ _ (fun x p1 s1 h1=>Sem.wp_mono _ _ _ (fun b p2 s2 h2=>Sem.wp_mono _ _ _ (fun c p3 s3 h3=>?_) (fun _ _ _ z=>z) _ _ (entry_nt h2)) (fun _ _ _ z=>z) _ _ h1) (fun _ _ _ z=>z) _ _ h
  obtain ⟨h3,T,rfl,fT⟩:=h3
  rw [setField_iff] at h3 ⊢
  obtain ⟨a',o,vs,e,ho,hd,hi,q⟩:=h3
  cases e
  exact ⟨a,o,vs,rfl,ho,hd,hi,q,a,T,rfl,FldAt.set ho hd hi,fT.upd (by decide)⟩
theorem note_nt {e:Value}{env:Env}{f:Addr}{Q:Unit→Pos→Shared→Prop}(hf:env.frame=some f)(h:Sem.wp M Γ (noteFrame e env) Q E p s):Sem.wp M Γ (noteFrame e env) (fun u p s1=>Q u p s1∧Nt s1.heap e f) E p s:=by
  unfold noteFrame at h ⊢
  simp only [hf] at h ⊢
  rw [Sem.wp_bind',field_iff] at h ⊢
  obtain ⟨a,o,vs,hd0,rfl,ho,hd,hx,h⟩:=h
  refine ⟨a,o,vs,hd0,rfl,ho,hd,hx,?_⟩
  try dsimp only at h
  try dsimp only
  split at h
  · rename_i c
    rw [if_pos c]
    rw [Sem.wp_bind',field_iff] at h ⊢
    obtain ⟨T,oT,ts,x,rfl,hT,hdT,hxT,h⟩:=h
    refine ⟨T,oT,ts,x,rfl,hT,hdT,hxT,?_⟩
    split at h
    · rename_i c2
      rw [if_pos c2]
      rw [Sem.wp_pure'] at h ⊢
      have e3:x=rawInt f:=by simpa using c2
      exact ⟨h,a,T,rfl,⟨o,vs,ho,hd,hx⟩,⟨oT,ts,hT,hdT,by rw [← e3];exact hxT⟩⟩
    · rename_i c2
      rw [if_neg c2]
      rw [Sem.wp_bind'] at h ⊢
      exact Sem.wp_mono _ _ _ (fun u p1 s1 h1=>jp_nt h1) (fun _ _ _ z=>z) _ _ h
  · rename_i c
    rw [if_neg c]
    exact jp_nt h
end
theorem FldAt.uniq {h:Heap}{a:Addr}{i:Nat}{x y:Value}(f:FldAt h a i x){o:Obj}{vs:Array Value}(ho:h.get? a=some o)(hd:o.data=.fields vs)(hx:vs[i]?=some y):x=y:=by
  obtain ⟨o',vs',e1,e2,e3⟩:=f
  rw [ho] at e1
  cases e1
  rw [hd] at e2
  cases e2
  rw [hx] at e3
  cases e3
  rfl
theorem upd_twice {h:Heap}{T:Addr}{i:Nat}{x y:Value}:(h.update T (Obj.mapFields (·.setIfInBounds i x))).update T (Obj.mapFields (·.setIfInBounds i y))=h.update T (Obj.mapFields (·.setIfInBounds i y)):=by
  obtain ⟨objs,l⟩:=h
  show Heap.mk _ _=Heap.mk _ _
  congr 1
  apply Array.ext
  · simp
  · intro j h1 h2
    simp only [Array.getElem_modify]
    split
    · have hj:j<objs.size:=by simpa using h2
      generalize objs[j]'hj=o
      obtain ⟨c,d,da,sl⟩:=o
      cases da<;>first | rfl | (show Obj.mk _ _ (.fields _) _=Obj.mk _ _ (.fields _) _;simp)
    · rfl
section
variable {M:Model}{A:Around}{env:Env}{f:Addr}{Q:Value→Shared→Prop}
theorem own_leaving (hf:env.frame=some f):PassesOwn M A env (fun e s'=>wpAny M A (leaving env e) (fun _ s''=>Q e s'') (fun e' s''=>Q e' s'') s'):=by
  intro e s' h Γ p hΓ
  have h0:=h Γ p hΓ
  unfold leaving at h0
  rw [Sem.wp_bind'] at h0
  refine Sem.wp_mono _ _ _ (fun u p1 s1 hh=>?_) (fun _ _ _ z=>z) _ _ (wp_nr (kd_note e env) (note_nt hf h0))
  obtain ⟨hs,a,T,rfl,f1,f3⟩:=hh
  obtain ⟨o1,v1,g1,d1,x1⟩:=id f1
  obtain ⟨o3,v3,g3,d3,x3⟩:=id f3
  have i3:3<v3.size:=(Array.getElem?_eq_some_iff.mp x3).1
  have nn:(Value.ref T != Value.none)=true:=by simp
  have nn':(Value.ref T==Value.none)=false:=by simp
  have q:Q (.ref a) { s1 with heap:=s1.heap.update T (Obj.mapFields (·.setIfInBounds 3 Value.none)) }:=by
    unfold setFlight at hs
    rw [Sem.wp_bind',field_iff] at hs
    obtain ⟨a',o,vs,x,e1,ho,hd,hx,hs⟩:=hs
    cases e1
    obtain rfl:=f1.uniq ho hd hx
    rw [if_pos nn,setField_iff] at hs
    obtain ⟨T',o',vs',e1,ho',hd',hi',hs⟩:=hs
    cases e1
    exact hs
  clear hs
  intro Γ2 p2 h2
  rw [Sem.wp_bind',field_iff]
  refine ⟨a,o1,v1,_,rfl,g1,d1,x1,?_⟩
  try dsimp only
  rw [if_neg (by rw [nn'];decide)]
  unfold setFlight
  rw [Sem.wp_bind',field_iff]
  refine ⟨a,o1,v1,_,rfl,g1,d1,x1,?_⟩
  rw [if_pos nn,setField_iff]
  refine ⟨T,o3,v3,rfl,g3,d3,i3,?_⟩
  rw [hf]
  show wpAny M A (leaving env (.ref a)) _ _ { s1 with heap:=s1.heap.update T (Obj.mapFields (·.setIfInBounds 3 (rawInt f))) }
  have q':Q (.ref a) { s1 with heap:=(s1.heap.update T (Obj.mapFields (·.setIfInBounds 3 (rawInt f)))).update T (Obj.mapFields (·.setIfInBounds 3 Value.none)) }:=by rw [upd_twice];exact q
  have f1':FldAt (s1.heap.update T (Obj.mapFields (·.setIfInBounds 3 (rawInt f)))) a 1 (.ref T):=f1.upd (by decide)
  have f3':FldAt (s1.heap.update T (Obj.mapFields (·.setIfInBounds 3 (rawInt f)))) T 3 (rawInt f):=FldAt.set g3 d3 i3
  generalize s1.heap.update T (Obj.mapFields (·.setIfInBounds 3 (rawInt f)))=h2 at q' f1' f3' ⊢
  obtain ⟨o1',v1',g1',d1',x1'⟩:=id f1'
  obtain ⟨o3',v3',g3',d3',x3'⟩:=id f3'
  intro Γ3 p3 h3
  unfold leaving noteFrame
  simp only [hf]
  rw [Sem.wp_bind',Sem.wp_bind',field_iff]
  refine ⟨a,o1',v1',_,rfl,g1',d1',x1',?_⟩
  try dsimp only
  rw [if_pos nn,Sem.wp_bind',field_iff]
  refine ⟨T,o3',v3',_,rfl,g3',d3',x3',?_⟩
  rw [if_pos (by simp),Sem.wp_pure']
  unfold setFlight
  rw [Sem.wp_bind',field_iff]
  refine ⟨a,o1',v1',_,rfl,g1',d1',x1',?_⟩
  rw [if_pos nn,setField_iff]
  exact ⟨T,o3',v3',rfl,g3',d3',(Array.getElem?_eq_some_iff.mp x3').1,q'⟩
end
section
variable {P:Program}{w:World}{K:PySem.W.Frag}{mg:Str→Option Value}{base:Heap}{N:List Str}{qual:Str}{scope:Scope}{f:Addr}{cd:Value}{A:Around}{outer:List Env}{s0:Shared}{H0:Hp}{E:XK}
theorem ownD:PassesOwn (model P w) (cxD P w K mg base N qual scope f cd A outer s0 H0 E).A (cxD P w K mg base N qual scope f cd A outer s0 H0 E).env (cxD P w K mg base N qual scope f cd A outer s0 H0 E).xe:=own_leaving (f:=s0.heap.objs.size) (Q:=fun e s''=>CXD P w outer H0 s0 E e s'') rfl
end
end L2
namespace L2
open PySem PySem.Spec PyProof.Rows
section
variable {X:Cx}
end
end L2
namespace L2
open PySem PySem.Spec PyProof.Rows
def litsOf:List Expr→Option (List Str)
  | []=>some []
  | .Constant (.str x) _ _::r=>match litsOf r with | some ws=>some (x::ws) | none=>none
  | _=>none
def tLits (ws:List Str):TA:=fun _ H Q=>Q (ws.map V.str) H
theorem tLits_ap {ws:List Str}{σ:St}{H:Hp}{Q:List V→Hp→Prop}:tLits ws σ H Q=Q (ws.map V.str) H:=rfl
section
variable {X:Cx}
theorem pa_lits:∀ {es:List Expr} {ws:List Str},litsOf es=some ws→PA X es (tLits ws)
  | [],ws,h=>by
    cases h
    exact pa_nil
  | e :: r,ws,h=>by
    unfold litsOf at h
    split at h
    · rename_i h1
      cases h1
    · rename_i x j pos r' h1
      cases h1
      split at h
      · rename_i ws' h2
        cases h
        exact pa_cons pe_str (pa_lits h2)
      · cases h
    · cases h
end
end L2
namespace L2
open PySem PySem.Spec PyProof.Rows
section
variable {X:Cx}
end
end L2
namespace L2
open PySem PySem.Spec PyProof.Rows
section
variable {X:Cx}
end
end L2
namespace L2
open PySem PySem.Spec PyProof.Rows
section
variable {X:Cx}{pos p1 p2:Pos}{j1 j2:Nat}{k:Str}{i:Int}
end
end L2
namespace L2
open PySem PySem.Spec PyProof.Rows
structure ByCls (K:PySem.W.Frag)(mg:Str→Option Value)(x m:Str)(M f:Addr):Prop where
  g:mg x=some (.ref M)
  sp:PySem.W.specialIn K (.ref M) "__getattribute__"=some (some (.builtin "type.__getattribute__"))
  rd:PySem.W.readsIn K M (.type "type")=true
  fc:PySem.W.findCls K (.ref M) (.type "type") m=some (.val (.ref f))
  kp:PySem.W.keepIn K (.ref f)=true
def BaseAt (P:Program)(w:World)(K:PySem.W.Frag)(mg:Str→Option Value)(base:Heap)(x m:Str)(ps:List Str)(k:Nat)(sp:Sp):Prop :=
  ∃ M f fd,ByCls K mg x m M f∧FnOk P w K mg base CX0 k f fd ps sp∧Binds K fd ps []
section
variable {X:Cx}{k:Nat}{ps:List Str}{sp:Sp}{x m:Str}{p pos apos:Pos}{e:Expr}{es:List Expr}{t:TA}{pl:Sem Bool}
theorem pe_base (F:BaseAt X.prog X.w X.K X.mg X.base x m ps k sp)(hr:Room k X.A)(hg:Gl X x)(ha:PA X (e::es) t)
    (hdb:(x==("__debug__":Str))=false:=by decide) (he:starEach (e::es) X.env=(false,eval e X.env)::starEach es X.env:=by rfl) (hpl:(backTo pos (starEach es X.env)).any (·.1)=false:=by rfl)
    (ht:eval (.Call (.Attribute (.Name x p) m apos) (e::es) [] pos) X.env=(do
      let ov ← eval (.Name x p) X.env
      standAt apos.atName
      let (f,first) ← holding [ov] (getMethod ov m pl)
      callWith pos f first (backTo pos (starEach (e::es) X.env)) (backToKw pos (keywordEach [] X.env))):=by rfl) :
    PE X (.Call (.Attribute (.Name x p) m apos) (e::es) [] pos) (tCall sp [] E0 t):=by
  obtain ⟨M,f,fd,c,F,b⟩:=F
  intro pins s σ H Q I h
  refine PySem.W.methodCall_KW (pl:=pl) (ld_glob I hg c.g ?_ hdb) ht
  refine PySem.W.method_cls I.kIn c.sp (PySem.W.cls_value I.kIn c.rd c.fc rfl ?_)
  refine PySem.W.callWith_K (first:=[]) (h₀:=X.base) I.ok.mod.kin c.kp (thn (ha pos pins _ σ H _ (I.tok _) h) fun us s1 ⟨vs,H1,I1,r,q⟩=>⟨I1.kIn,?_⟩) he hpl
  exact run_fn (us:=us) (vs:=vs) (dvs:=[]) F hr b .nil pass0 I1 r q
def MakeR (P:Program)(w:World)(K:PySem.W.Frag)(mg:Str→Option Value)(base:Heap)(x:Str)(C:Addr)(ps:List Str)(k:Nat)(sp:Sp):Prop :=
  mg x=some (.ref C)∧∃ f fd,Mk K C f∧FnOk P w K mg base (CXD P w) k f fd ps sp∧Binds K fd ps []
theorem MakeR.calm {P:Program}{w:World}{K:PySem.W.Frag}{mg:Str→Option Value}{base:Heap}{x:Str}{C:Addr}{ps:List Str}{k:Nat}{sp:Sp}(h:MakeR P w K mg base x C ps k sp):MakeAt P w K mg base x C ps k (fun vs H Q _=>sp vs H Q E0):=by
  obtain ⟨g,f,fd,m,F,b⟩:=h
  exact ⟨g,f,fd,m,F.calmD,b⟩
theorem MakeR.of {P:Program}{w:World}{K:PySem.W.Frag}{mg:Str→Option Value}{base:Heap}{x:Str}{C:Addr}{qual:Str}{st:Stmt}{N ps:List Str}{k:Nat}{sp:Sp}(hx:mg x=some (.ref C))(d:MakerAt K C qual st ps)(S:FnScope N ps (defScope st))(len:∀ vs H Q E,sp vs H Q E→vs.length=ps.length)
    (hbody:∀ (f:Addr) (cdv:Value) (A:Around) (outer:List Env) (s:Shared) (H:Hp) (vs:List V) (Q:VK) (E:XK),Room k (A.deeper (envOfC qual (defScope st) s.heap.objs.size f cdv))→sp vs H Q E →
      ∃ t,PSs (cxD P w K mg base N qual (defScope st) f cdv A outer s H E) (defBody st) t∧t { nx:=fun _ H'=>Q .non H',rt:=Q } (start N vs) H):MakeR P w K mg base x C ps (k+1) sp:=by
  obtain ⟨f,fd,F,m,b⟩:=d
  obtain ⟨oc,od,kV,doc,pm,an,cdv,ct,osl,rfl,lk,hcd⟩:=F.ex
  exact ⟨hx,f,_,m,fn_of lk hcd S len (hbody f cdv),b⟩
end
section
variable {P:Program}{w:World}{K:PySem.W.Frag}{mg:Str→Option Value}{base:Heap}{N:List Str}{qual:Str}{scope:Scope}{f:Addr}{cd:Value}{A:Around}{outer:List Env}{s0:Shared}{H0:Hp}{E:XK}
theorem pe_makeR {x:Str}{C:Addr}{ps:List Str}{k:Nat}{sp:Sp}{e:Expr}{es:List Expr}{t:TA}{p pos:Pos}(F:MakeR P w K mg base x C ps k sp)(hr:Room (k+1) (A.deeper (envOfC qual scope s0.heap.objs.size f cd)))(hg:Gl (cxD P w K mg base N qual scope f cd A outer s0 H0 E) x)(ha:PA (cxD P w K mg base N qual scope f cd A outer s0 H0 E) (e::es) t)
    (hdb:(x==("__debug__":Str))=false:=by decide) (he:starEach (e::es) (envOfC qual scope s0.heap.objs.size f cd)=(false,eval e (envOfC qual scope s0.heap.objs.size f cd))::starEach es (envOfC qual scope s0.heap.objs.size f cd):=by rfl) (hpl:(backTo pos (starEach es (envOfC qual scope s0.heap.objs.size f cd))).any (·.1)=false:=by rfl) :
    PE (cxD P w K mg base N qual scope f cd A outer s0 H0 E) (.Call (.Name x p) (e::es) [] pos) (tMake C sp [] E t):=by
  obtain ⟨hm,f',fd,M,F,b⟩:=F
  exact pe_make M F hr hg hm b .nil passD ha hdb he hpl
end
section
variable {X:Cx}{pins:List (Addr × Obj)}{σ:St}{H:Hp}{s:Shared}{k:Nat}{f C:Addr}{fd:FuncData}{ps:List Str}{sp:Sp}
theorem run_makeRX {Q:VK}{W:WX}{us:List Value}{vs:List V}(hex:X.ex=[])(M:Mk X.K C f)(F:FnOk X.prog X.w X.K X.mg X.base (CXD X.prog X.w) k f fd ps sp)(hr:Room (k+1) X.A)(hb:Binds X.K fd ps [])(I:Inv X pins σ H s)(r:Vals vs us)
    (h:∀ x dx,H x=none→H dx=none→dx≠x→sp (.ref x::vs) (upd (upd H dx (.own x)) x (.ins C dx [])) (fun v H2=>v=.non∧Q (.ref x) H2) (eW W)) :
    wpAny (model X.prog X.w) X.A (call (.ref C) us) (EP X pins σ Q) (XPD X pins σ W) s:=by
  have hq:=h (s.heap.objs.size+1) s.heap.objs.size (I.hok.fresh (Nat.le_succ _)) (I.hok.fresh (Nat.le_refl _)) (Nat.ne_of_lt (Nat.lt_succ_self _))
  have I2:=Inv.made (C:=C) I
  have r2:Vals (V.ref (s.heap.objs.size+1)::vs) (Value.ref (s.heap.objs.size+1)::us):=.cons rfl r
  have hl:(Value.ref (s.heap.objs.size+1)::us++[]).length=ps.length:=by
    rw [List.append_nil,← F.len _ _ _ _ hq]
    exact r2.length.symm
  refine wpAny_call (make_map (f:=f) I.kIn M.makes M.init (beq_iff_eq.mp M.fn) (codeAny_mono (F.run _ X.stack _ _ ⟨Value.ref (s.heap.objs.size+1)::us,[]⟩ (Value.ref (s.heap.objs.size+1)::us) _ _ (eW W) (hr.make C us [])
    (I2.env0.make C us []) (by have z:=hb _ (Value.ref (s.heap.objs.size+1)::us) I2.kIn hl;rw [List.append_nil] at z;exact z) r2 hq) fun r s' hq'=>?_))
  cases r with
  | error e=>exact I2.toXPD hex (E:=eW W) hq' fun C dx H' ⟨C',e1,z⟩=>by cases e1;exact z
  | ok fl =>
    cases fl with
    | ret u =>
      obtain ⟨v,H',I3,rv,ev,q3⟩:=I2.after hq'
      subst ev
      exact ⟨rv,⟨V.ref (s.heap.objs.size+1),H',I3,rfl,q3⟩⟩
    | next=>exact False.elim hq'
    | brk=>exact False.elim hq'
    | cont=>exact False.elim hq'
def tMakeRX (C:Addr)(sp:Sp)(t:TA):WX→TE:=fun W σ H Q=>t σ H fun vs H1=>∀ x dx,H1 x=none→H1 dx=none→dx≠x→sp (.ref x::vs) (upd (upd H1 dx (.own x)) x (.ins C dx [])) (fun v H2=>v=.non∧Q (.ref x) H2) (eW W)
theorem pex_make {x:Str}{e:Expr}{es:List Expr}{t:TA}{p pos:Pos}(F:MakeR X.prog X.w X.K X.mg X.base x C ps k sp)(hr:Room (k+1) X.A)(hg:Gl X x)(ha:PA X.nox (e::es) t)(hex:X.ex=[]:=by rfl)
    (hdb:(x==("__debug__":Str))=false:=by decide) (he:starEach (e::es) X.env=(false,eval e X.env)::starEach es X.env:=by rfl) (hpl:(backTo pos (starEach es X.env)).any (·.1)=false:=by rfl) :
    PEX X (.Call (.Name x p) (e::es) [] pos) (tMakeRX C sp t):=by
  obtain ⟨hm,f,fd,M,F,b⟩:=F
  intro pins s σ H Q W I h
  refine wpAny_Call_Name_kw (ld_glob I hg hm ?_ hdb)
  refine PySem.W.callWith_K (h₀:=X.base) I.ok.mod.kin M.kp (wpAny_mono (ha pos pins s σ H _ (I.wish _) h) (fun us s1 ⟨vs,H1,I1,r,q⟩=>⟨I1.unwish.kIn,?_⟩) fun _ _ z=>False.elim z) he hpl
  exact run_makeRX hex M F hr b I1.unwish r q
end
end L2
namespace L2
open PySem PySem.Spec PyProof.Rows
section
variable {X:Cx}
def rListD:List V→Hp→VK→Prop:=fun xs H Q=>∃ (a:Addr) (kvs:List (Key × V)),xs=[.ref a]∧H a=some (.dK kvs)∧∀ l,H l=none→Q (.ref l) (upd H l (.lst (kvs.map fun p=>kV p.1)))
theorem rListD_ap {xs:List V}{H:Hp}{Q:VK}:rListD xs H Q=∃ (a:Addr) (kvs:List (Key × V)),xs=[.ref a]∧H a=some (.dK kvs)∧∀ l,H l=none→Q (.ref l) (upd H l (.lst (kvs.map fun p=>kV p.1))):=rfl
theorem vals_get:∀ {vs:List V} {us:List Value},vs.length=us.length→(∀ (j:Nat) v u,vs[j]?=some v→us[j]?=some u→RelV v u)→Vals vs us
  | [],[],_,_=>.nil
  | v::vs,u::us,h,k=>.cons (k 0 v u rfl rfl) (vals_get (Nat.succ.inj h) fun j=>k (j+1))
  | [],_::_,h,_=>by cases h
  | _::_,[],h,_=>by cases h
theorem call_listD (hc:X.calm=true:=by rfl):CallR X (.type "list") rListD:=by
  intro pins s σ H xs us Q I r h
  obtain ⟨a,kvs,rfl,ha,q⟩:=h
  obtain ⟨u,rfl,ru⟩:=r.one
  cases (show u=Value.ref a from ru)
  obtain ⟨hz,lo,vs,kv,o,es,ep,g1,g2,g3,g4,g5,g6⟩:=dk_of I.hok ha
  have lk:kvs.length=vs.length:=kv.length
  refine PySem.W.kdl_call (A:=X.A) (PySem.W.kdl_dict (knd:=mixKind X.prog X.w) (kvs:=vs) (ep:=ep) lo) (I.ok.hd hc) ⟨o,es,g1,g2,g3,g4,g5,g6⟩ (by omega) fun h1 tk acc c old e hacc=>?_
  have lz:(kvs.map fun p=>kV p.1).length≤sizeLine:=by rw [List.length_map];exact hz
  have rv:Vals (kvs.map fun p=>kV p.1) acc.toList:=by
    refine vals_get (by rw [List.length_map];exact lk.trans (hacc.1.symm.trans Array.length_toList.symm)) fun j v u ev eu=>?_
    obtain ⟨k,y,e1,e2⟩:=hacc.2 j u (by rw [← Array.getElem?_toList];exact eu)
    have ek:(vs.map (·.1))[j]?=some k:=by rw [List.getElem?_map,e1];rfl
    rw [← kv.keys,List.getElem?_map] at ek
    rw [List.getElem?_map] at ev
    cases en:kvs[j]? with
    | none=>rw [en] at ek;cases ek
    | some p =>
      rw [en] at ek ev
      cases (show p.1=k from Option.some.inj ek)
      cases (show kV p.1=v from Option.some.inj ev)
      rw [mixKind_is] at e2
      rcases keyIs_shape e2 with ⟨i',t,z1,z2⟩ | ⟨x,t,z1,z2⟩
      · rw [z1]
        exact ⟨t,z2⟩
      · rw [z1]
        exact ⟨t,z2⟩
  refine ⟨.ref s.heap.objs.size,_,I.laid (t':=tk) (o:=.lst (kvs.map fun p=>kV p.1)) old (Nat.le_refl _) ⟨lz,acc.toList,c,rv,by rw [Array.toArray_toList];exact e⟩,rfl,q _ (I.hok.fresh (Nat.le_refl _))⟩
end
end L2
namespace L2
open PySem PySem.Spec PyProof.Rows
section
variable {X:Cx}
def rRepS:R2:=fun x y H Q=>∃ (z:Str) (n:Int),x=.str z∧y=.int n∧(n=0∨n=1)∧Q (.str (if n=1 then z else Str.empty)) H
theorem rRepS_ap {x y:V}{H:Hp}{Q:VK}:rRepS x y H Q=∃ (z:Str) (n:Int),x=.str z∧y=.int n∧(n=0∨n=1)∧Q (.str (if n=1 then z else Str.empty)) H:=rfl
theorem op_repS:OpR X (binaryOp .Mult) rRepS:=by
  intro pins s σ H x y v u Q I rx ry h
  obtain ⟨z,n,rfl,rfl,hn,q⟩:=h
  obtain ⟨t,rfl⟩:=(show ∃ t,v=Value.str z t from rx)
  obtain ⟨t',rfl⟩:=(show ∃ t,u=Value.int n t from ry)
  rcases hn with rfl | rfl
  · refine PySem.P.mul_str_none (by decide) (by decide) ⟨.str Str.empty,H,I.tok _,⟨_,rfl⟩,?_⟩
    rw [if_neg (by decide)] at q
    exact q
  · refine PySem.P.mul_str (by decide) (fun _ h=>absurd h (by simp)) (fun _ h=>absurd h (by simp)) ?_
    rw [if_neg (by decide),if_pos (by rfl)]
    rw [if_pos rfl] at q
    exact ⟨.str z,H,I,⟨_,rfl⟩,q⟩
end
end L2
namespace L2
open PySem PySem.Spec PyProof.Rows
structure EnmTn (e it:Addr)(St:Nat→Heap→Prop)(i:Nat)(h:Heap):Prop where
  e:∃ old,IsEnum h e it i old
  s:St i h
end L2
namespace My
open PySem L2 BM PyProof.Rows
def top (i:Nat):Stmt:=PySem.Challenge.pw_runmarks_k81_columns_of_a_table.main.body.getD i (.Pass ⟨0,0,0,0⟩)
abbrev s_is_of:Stmt:=top 10
theorem sc_is_of:FnScope ["word","signs"] ["word","signs"] (defScope s_is_of):=by walk_at "s"
abbrev s_is_name:Stmt:=top 11
theorem sc_is_name:FnScope ["word"] ["word"] (defScope s_is_name):=by walk_at "s"
abbrev s_is_whole:Stmt:=top 14
theorem sc_is_whole:FnScope ["thing"] ["thing"] (defScope s_is_whole):=by walk_at "s"
abbrev s_halved:Stmt:=top 16
abbrev s_halved_keys:Stmt:=top 17
abbrev s_check_number:Stmt:=top 20
abbrev s_check_name:Stmt:=top 27
theorem sc_check_name:FnScope ["name","columns"] ["name","columns"] (defScope s_check_name):=by walk_at "s"
abbrev s_is_size:Stmt:=top 32
theorem sc_is_size:FnScope ["kind","size"] ["kind","size"] (defScope s_is_size):=by walk_at "s"
abbrev s_columns_of:Stmt:=top 33
theorem sc_columns_of:FnScope ["told","columns","name","kind","size"] ["told"] (defScope s_columns_of):=by walk_at "s"
abbrev s_l_cell_at:Stmt:=top 38
theorem sc_l_cell_at:FnScope ["_law_script","_law_k"] ["_law_script","_law_k"] (defScope s_l_cell_at):=by walk_at "s"
abbrev s_l_whole:Stmt:=top 39
theorem sc_l_whole:FnScope ["_law_found"] ["_law_found"] (defScope s_l_whole):=by walk_at "s"
abbrev s_l_mixed:Stmt:=top 40
theorem sc_l_mixed:FnScope ["_law_cell","_law_k","_law_number"] ["_law_cell","_law_k"] (defScope s_l_mixed):=by walk_at "s"
abbrev s_l_names:Stmt:=top 41
theorem sc_l_names:FnScope ["_law_cell","_law_letters","_law_many","_law_at","_law_names_here","_law_k","_law_signs","_law_some"] ["_law_cell"] (defScope s_l_names):=by walk_at "s"
abbrev s_l_columns:Stmt:=top 42
theorem sc_l_columns:FnScope ["_law_cell","_law_many","_law_names_here","_law_columns_here","_law_k","_law_number","_law_size"] ["_law_cell","_law_many"] (defScope s_l_columns):=by walk_at "s"
abbrev s_l_top:Stmt:=top 43
theorem sc_l_top:FnScope ["_law_column"] ["_law_column"] (defScope s_l_top):=by walk_at "s"
abbrev s_l_spoilt:Stmt:=top 46
theorem sc_l_spoilt:FnScope ["_law_columns_here","_law_number","_law_at","_law_name","_law_kind","_law_size","_law_way","_law_pick"] ["_law_columns_here","_law_number"] (defScope s_l_spoilt):=by walk_at "s"
abbrev s_l_refused:Stmt:=top 47
theorem sc_l_refused:FnScope ["_law_columns_here","_law_first","_law_second","e"] ["_law_columns_here"] (defScope s_l_refused):=by walk_at "s"
abbrev s_law:Stmt:=top 48
theorem sc_law:FnScope ["_law_script","_law_cell","_law_columns_here","_law_handed","_law_table","_law_column","_law_found"] ["_law_script"] (defScope s_law):=by walk_at "s"
abbrev s_Marks___init__:Stmt:=inClass (top 21) 0
theorem sc_Marks___init__:FnScope ["self"] ["self"] (defScope s_Marks___init__):=by walk_at "s"
abbrev s_Marks_many:Stmt:=inClass (top 21) 6
theorem sc_Marks_many:FnScope ["self"] ["self"] (defScope s_Marks_many):=by walk_at "s"
abbrev s_Marks_told:Stmt:=inClass (top 21) 12
theorem sc_Marks_told:FnScope ["self"] ["self"] (defScope s_Marks_told):=by walk_at "s"
abbrev s_Marks_copied:Stmt:=inClass (top 21) 21
theorem sc_Marks_copied:FnScope ["self","other"] ["self"] (defScope s_Marks_copied):=by walk_at "s"
abbrev s_Column___init__:Stmt:=inClass (top 23) 0
theorem sc_Column___init__:FnScope ["self"] ["self"] (defScope s_Column___init__):=by walk_at "s"
abbrev s_Column_sets:Stmt:=inClass (top 23) 7
theorem sc_Column_sets:FnScope ["self"] ["self"] (defScope s_Column_sets):=by walk_at "s"
abbrev s_Column_copied:Stmt:=inClass (top 23) 10
theorem sc_Column_copied:FnScope ["self","other","number","key"] ["self"] (defScope s_Column_copied):=by walk_at "s"
abbrev s_ByBits___init__:Stmt:=inClass (top 25) 0
theorem sc_ByBits___init__:FnScope ["self","width"] ["self","width"] (defScope s_ByBits___init__):=by walk_at "s"
abbrev s_ByBits_top:Stmt:=inClass (top 25) 1
theorem sc_ByBits_top:FnScope ["self"] ["self"] (defScope s_ByBits_top):=by walk_at "s"
abbrev s_ByBits_fresh:Stmt:=inClass (top 25) 2
theorem sc_ByBits_fresh:FnScope ["self"] ["self"] (defScope s_ByBits_fresh):=by walk_at "s"
abbrev s_ByValue___init__:Stmt:=inClass (top 29) 0
theorem sc_ByValue___init__:FnScope ["self","top"] ["self","top"] (defScope s_ByValue___init__):=by walk_at "s"
abbrev s_ByValue_top:Stmt:=inClass (top 29) 1
theorem sc_ByValue_top:FnScope ["self"] ["self"] (defScope s_ByValue_top):=by walk_at "s"
abbrev s_ByValue_fresh:Stmt:=inClass (top 29) 2
theorem sc_ByValue_fresh:FnScope ["self"] ["self"] (defScope s_ByValue_fresh):=by walk_at "s"
abbrev s_Table___init__:Stmt:=inClass (top 34) 0
theorem sc_Table___init__:FnScope ["self","columns"] ["self","columns"] (defScope s_Table___init__):=by walk_at "s"
abbrev s_Table_told:Stmt:=inClass (top 34) 5
theorem sc_Table_told:FnScope ["self","told","name"] ["self"] (defScope s_Table_told):=by walk_at "s"
abbrev s_Table_names:Stmt:=inClass (top 34) 7
theorem sc_Table_names:FnScope ["self"] ["self"] (defScope s_Table_names):=by walk_at "s"
abbrev s_Table_rows:Stmt:=inClass (top 34) 8
theorem sc_Table_rows:FnScope ["self"] ["self"] (defScope s_Table_rows):=by walk_at "s"
abbrev s_Table_column_of:Stmt:=inClass (top 34) 9
theorem sc_Table_column_of:FnScope ["self","name"] ["self","name"] (defScope s_Table_column_of):=by walk_at "s"
abbrev s_Desk___init__:Stmt:=inClass (top 36) 0
theorem sc_Desk___init__:FnScope ["self","columns"] ["self","columns"] (defScope s_Desk___init__):=by walk_at "s"
structure Blt (mg:Str→Option Value):Prop where
  len:mg "len"=none
  range:mg "range"=none
  isi:mg "isinstance"=none
  int:mg "int"=none
  bool:mg "bool"=none
  lst:mg "list"=none
  min:mg "min"=none
  sorted:mg "sorted"=none
  sum:mg "sum"=none
  dct:mg "dict"=none
  all:mg "all"=none
  zip:mg "zip"=none
  ValueError:mg "ValueError"=none
structure CD_Marks (K:PySem.W.Frag)(mg:Str→Option Value)(C:Addr):Prop where
  at_:mg "Marks"=some (.ref C)
  c:Cls K C
  init:MakerAt K C "Marks.__init__" s_Marks___init__ ["self"]
  m_many:MDefAt K C "many" "Marks.many" s_Marks_many ["self"]
  m_told:MDefAt K C "told" "Marks.told" s_Marks_told ["self"]
  m_copied:MDefAt K C "copied" "Marks.copied" s_Marks_copied ["self"]
  n_keyed:NoAttr K C "keyed"
  n_aheads:NoAttr K C "aheads"
  n_stretches:NoAttr K C "stretches"
  n_held:NoAttr K C "held"
structure CD_ByBits (K:PySem.W.Frag)(mg:Str→Option Value)(C:Addr):Prop where
  at_:mg "ByBits"=some (.ref C)
  c:Cls K C
  init:MakerAt K C "ByBits.__init__" s_ByBits___init__ ["self","width"]
  m_top:MDefAt K C "top" "ByBits.top" s_ByBits_top ["self"]
  m_fresh:MDefAt K C "fresh" "ByBits.fresh" s_ByBits_fresh ["self"]
  m_sets:MDefAt K C "sets" "Column.sets" s_Column_sets ["self"]
  m_copied:MDefAt K C "copied" "Column.copied" s_Column_copied ["self"]
  n_valued:NoAttr K C "valued"
  n_by_number:NoAttr K C "by_number"
  n_by_key:NoAttr K C "by_key"
  n_width:NoAttr K C "width"
structure CD_ByValue (K:PySem.W.Frag)(mg:Str→Option Value)(C:Addr):Prop where
  at_:mg "ByValue"=some (.ref C)
  c:Cls K C
  init:MakerAt K C "ByValue.__init__" s_ByValue___init__ ["self","top"]
  m_top:MDefAt K C "top" "ByValue.top" s_ByValue_top ["self"]
  m_fresh:MDefAt K C "fresh" "ByValue.fresh" s_ByValue_fresh ["self"]
  m_sets:MDefAt K C "sets" "Column.sets" s_Column_sets ["self"]
  m_copied:MDefAt K C "copied" "Column.copied" s_Column_copied ["self"]
  n_valued:NoAttr K C "valued"
  n_by_number:NoAttr K C "by_number"
  n_by_key:NoAttr K C "by_key"
  n_greatest:NoAttr K C "greatest"
structure CD_Table (K:PySem.W.Frag)(mg:Str→Option Value)(C:Addr):Prop where
  at_:mg "Table"=some (.ref C)
  c:Cls K C
  init:MakerAt K C "Table.__init__" s_Table___init__ ["self","columns"]
  m_told:MDefAt K C "told" "Table.told" s_Table_told ["self"]
  m_names:MDefAt K C "names" "Table.names" s_Table_names ["self"]
  m_rows:MDefAt K C "rows" "Table.rows" s_Table_rows ["self"]
  m_column_of:MDefAt K C "column_of" "Table.column_of" s_Table_column_of ["self","name"]
  n_columns:NoAttr K C "columns"
  n_present:NoAttr K C "present"
structure CD_Desk (K:PySem.W.Frag)(mg:Str→Option Value)(C:Addr):Prop where
  at_:mg "Desk"=some (.ref C)
  c:Cls K C
  init:MakerAt K C "Desk.__init__" s_Desk___init__ ["self","columns"]
  n_table:NoAttr K C "table"
def rzX (C:Addr)(sp:Sp)(E:XK)(vs:List V)(H1:Hp):Prop:=vs.length≤1000∧∀ ea,H1 ea=none→sp (.ref ea::vs) (upd H1 ea (excO ea C)) (fun v H2=>v=.non∧∃ dx,H2 ea=some (excH ea C dx)∧E (.ref C) (some dx) (del H2 ea)) E0
theorem tRaiseX_rz {C:Addr}{sp:Sp}{E:XK}{t:TA}{D:Ends}{σ:L2.St}{H:Hp}:tRaiseX C sp E t D σ H=t σ H fun vs H1=>rzX C sp E vs H1:=rfl
local macro_rules | `(tactic| walk_at "vc")=>`(tactic| ((try dsimp only [rListD_ap,rRepS_ap,tLits_ap,tDIn_ap,tDNotIn_ap,tSeq_ap,tNext_ap,tAsg_ap,gName_ap,tVar_ap,tC_ap,tOp_ap,tUn_ap,rI_ap,rI0_ap,rU_ap,rEq_ap,rNe_ap,tRet_ap,tDrop_ap,tIfS_ap,tTest_ap,tB_ap,tAnd_ap,tOr_ap,tNot_ap,tAndV_ap,tNotV_ap,tIf_ap,tCall_ap,tNil_ap,tCons_ap,tTup_ap,tLst_ap,tCB_ap,tBM_ap,tBM0_ap,rIxL_ap,rIxT_ap,rIxS_ap,rAppend_ap,rCat_ap,rRep_ap,iRng1_ap,iList_ap,iZip_ap,tDGet_ap,sDPut_ap,tChain_ap,rClear_ap,tNoTest_ap,tFor_ap,tComp_ap,rLen_ap,rListOf_ap,rIn_ap,tDNewK_ap,tMeD_ap,rExtend_ap,rSlS_ap,rAll_ap,rSortD_ap,sThaw_ap,rNeT_ap,iDict_ap,rDictOf_ap,tMake_ap,tFld_ap,sFld_ap,gTup_ap,gCons_ap,gNil_ap,tSl_ap,tNoPart_ap,tPart_ap,rSlL_ap,iStr_ap,rJoin_ap,L2.start,capSt]); (try simp only [rListD_ap,rRepS_ap,tLits_ap,tDIn_ap,tDNotIn_ap,tSeq_ap,tRaiseX_rz,tNext_ap,tAsg_ap,gName_ap,tVar_ap,tC_ap,tOp_ap,tUn_ap,rI_ap,rI0_ap,rU_ap,rEq_ap,rNe_ap,scal_ii,scal_bb,scal_ss,tRet_ap,tDrop_ap,tIfS_ap,tTest_ap,tB_ap,tAnd_ap,tOr_ap,tNot_ap,tAndV_ap,tNotV_ap,tIf_ap,tCall_ap,tNil_ap,tCons_ap,tTup_ap,tLst_ap,tCB_ap,tBM_ap,tBM0_ap,tyV_int,tyV_list,rIxL_ap,rIxT_ap,rIxS_ap,rAppend_ap,rCat_ap,rRep_ap,iRng1_ap,iList_ap,iZip_ap,tDGet_ap,sDPut_ap,tChain_ap,rClear_ap,tNoTest_ap,rIsi_int,rIsi_intb,rIsi_blb,rIsi_bli,tFor_ap,tComp_ap,rLen_ap,rListOf_ap,rIn_ap,tDNewK_ap,tMeD_ap,rExtend_ap,rSlS_ap,rAll_ap,rSortD_ap,sThaw_ap,rNeT_ap,iDict_ap,rDictOf_ap,tCBK,rMaxD,tMake_ap,tFld_ap,sFld_ap,gTup_ap,gCons_ap,gNil_ap,tSl_ap,tNoPart_ap,tPart_ap,rSlL_ap,iStr_ap,rJoin_ap,tyV_str,CDiv,CMul,CPow,CShl,L2.start,capSt,List.map_cons,List.map_nil,List.length_cons,List.length_nil,List.append_nil,List.nil_append,List.cons_append,List.getElem?_cons_zero,List.getElem?_cons_succ,List.set_cons_zero,List.set_cons_succ,List.getD_cons_zero,List.getD_cons_succ,rep0,rep1,rep2,rep3,rep4,rep5,rep6,rep7,rep8,rep9,rep10,rep11,Nat.reduceAdd,Nat.reduceSub,Int.reduceLT,Int.reduceLE,Int.reducePow,Int.reduceNeg,Int.reduceMul,Int.reduceAdd,Int.reduceSub,Int.reduceToNat,Int.reduceEq,reduceIte,Option.some.injEq,V.int.injEq,V.bl.injEq,V.ref.injEq,V.str.injEq,V.ty.injEq,List.cons.injEq,exists_and_left,exists_eq_left,exists_eq_left',exists_eq_right,exists_eq',exists_eq,and_true,true_and,Int.zero_add,decide_eq_true_eq,Bool.not_eq_true',decide_eq_false_iff_not,if_true,if_false,Bool.false_eq_true,Bool.true_eq_false,ite_not,not_true_eq_false,not_false_eq_true,Bool.not_true,Bool.not_false,decide_true,decide_false,or_true,true_or,reduceCtorEq,false_and,and_false,exists_false,false_or,or_false])))
def mixI (c k:Int):Int:=((c*48271+k*7919+104729)%2147483647)*((c*48271+k*7919+104729)%2147483647)%2147483629
def spMixed:Sp:=fun vs H Q _=>∃ c k:Int,vs=[.int c,.int k]∧Q (.int (mixI c k)) H
section
variable {P:Program}{w:World}{K:PySem.W.Frag}{mg:Str→Option Value}{base:Heap}
theorem ok_mixed (d:DefAt K mg "_law_mixed" s_l_mixed ["_law_cell","_law_k"]):FnAt P w K mg base "_law_mixed" ["_law_cell","_law_k"] 1 spMixed:=by
  refine FnAt.of d sc_l_mixed (fun vs H Q E h=>?_) (fun f cdv A outer s H vs Q E hr h=>?_)
  · obtain ⟨c,k,rfl,_⟩:=h
    rfl
  obtain ⟨c,k,rfl,q⟩:=h
  refine ⟨_,(pss_cons (ps_set (i:=2) sc_l_mixed.nd rfl (by walk_at "l") (pe_op op_mod (pe_op op_add (pe_op op_add (pe_op op_mul (pv 0) pe_int) (pe_op op_mul (pv 1) pe_int)) pe_int) pe_int))
      (pss_one (ps_ret (pe_op op_mod (pe_op op_mul (pv 2) (pv 2)) pe_int)))),?_⟩
  walk_at "vc"
  have h1:=Int.emod_nonneg (c*48271+k*7919+104729) (b:=2147483647) (by decide)
  have h2:=Int.emod_lt_of_pos (c*48271+k*7919+104729) (b:=2147483647) (by decide)
  exact ⟨.inl ⟨by omega,by omega⟩,q⟩
end
def spCell (K:PySem.W.Frag):Sp:=fun vs H Q _=>∃ (a:Addr) (ns:List Int) (k:Nat),vs=[.ref a,.int k]∧SqL K H a (ns.map V.int)∧Q (.int (ns.getD k 0)) H
section
variable {P:Program}{w:World}{K:PySem.W.Frag}{mg:Str→Option Value}{base:Heap}
theorem ok_cell_at (B:Blt mg)(d:DefAt K mg "_law_cell_at" s_l_cell_at ["_law_script","_law_k"]):FnAt P w K mg base "_law_cell_at" ["_law_script","_law_k"] 1 (spCell K):=by
  refine FnAt.of d sc_l_cell_at (fun vs H Q E h=>?_) (fun f cdv A outer s H vs Q E hr h=>?_)
  · obtain ⟨a,ns,k,rfl,_⟩:=h
    rfl
  obtain ⟨a,ns,k,rfl,hS,q⟩:=h
  refine ⟨_,(pss_cons (ps_if (pt_cmpR op_lt (pv 1) (pe_callB (call_lenK K) rfl B.len PySem.boot_len (pa_cons (pv 0) pa_nil)) (nomark _)) (pss_one (ps_ret (pe_ix (ix_listK K) (pv 0) (pv 1) (fun _ _=>rfl)))) pss_nil)
      (pss_one (ps_ret pe_int))),?_⟩
  walk_at "vc"
  refine ⟨_,.inl hS,?_⟩
  rw [List.length_map]
  by_cases hk:k<ns.length
  · rw [if_pos (by omega)]
    refine ⟨_,hS,.int (ns.getD k 0),atI_nat ?_,q⟩
    rw [List.getElem?_map,List.getElem?_eq_getElem hk,List.getD_eq_getElem?_getD,List.getElem?_eq_getElem hk]
    rfl
  · rw [if_neg (by omega)]
    have e:ns.getD k 0=0:=by rw [List.getD_eq_getElem?_getD,List.getElem?_eq_none (by omega)];rfl
    rw [e] at q
    exact q
end
def spWhole:Sp:=fun vs H Q _=>∃ i:Int,vs=[.int i]∧Q (.bl true) H
section
variable {P:Program}{w:World}{K:PySem.W.Frag}{mg:Str→Option Value}{base:Heap}
theorem ok_whole (B:Blt mg)(d:DefAt K mg "_law_whole" s_l_whole ["_law_found"]):FnAt P w K mg base "_law_whole" ["_law_found"] 1 spWhole:=by
  refine FnAt.of d sc_l_whole (fun vs H Q E h=>?_) (fun f cdv A outer s H vs Q E hr h=>?_)
  · obtain ⟨k,rfl,_⟩:=h
    rfl
  obtain ⟨k,rfl,q⟩:=h
  refine ⟨_,(pss_one (ps_ret (pe_and (pe_callB (call_isiK K) rfl B.isi boot_isi (pa_cons (pv 0) (pa_cons (pe_bltn (v:=.ty "int") rfl B.int boot_int rfl) pa_nil))) (pe_one (pe_not (pe_callB (call_isiK K) rfl B.isi boot_isi (pa_cons (pv 0) (pa_cons (pe_bltn (v:=.ty "bool") rfl B.bool boot_bool rfl) pa_nil)))))))),?_⟩
  walk_at "vc"
  exact q
end
def ofS (w s:Str):Bool:=w.cps.toList.all fun c=>decide (c∈s.cps.toList)
abbrev letS:Str:=Str.ofString "abcdefghijklmnopqrstuvwxyz"
def ws8:List V:=[.str (Str.ofString "and"),.str (Str.ofString "or"),.str (Str.ofString "not"),.str (Str.ofString "all"),.str (Str.ofString "none"),.str (Str.ofString "is"),.str (Str.ofString "from"),.str (Str.ofString "to")]
def nameB (w:Str):Bool:=decide (1≤w.length)&&decide (w.length≤8)&&ofS w letS&&!inV (.str w) ws8
def spOf:Sp:=fun vs H Q _=>∃ (w s:Str),vs=[.str w,.str s]∧w.length≤100000∧∀ H',Same H H'→Q (.bl (ofS w s)) H'
def spName:Sp:=fun vs H Q _=>∃ w:Str,vs=[.str w]∧w.length≤100000∧∀ H',Same H H'→Q (.bl (nameB w)) H'
theorem range_all (l:List Nat)(p:Nat→Bool):((List.range l.length).map fun i=>p ((⟨l⟩:Array Nat).getD i 0)).all id=l.all p:=by
  rw [List.all_map,Bool.eq_iff_iff,List.all_eq_true,List.all_eq_true]
  have g:∀ i (h:i<l.length),(⟨l⟩:Array Nat).getD i 0=l[i]:=fun i h=>by
    unfold Array.getD
    rw [dif_pos (show i<(⟨l⟩:Array Nat).size from h)]
    rfl
  constructor
  · intro w c hc
    obtain ⟨i,hi,rfl⟩:=List.mem_iff_getElem.mp hc
    have:=w i (List.mem_range.mpr hi)
    rw [← g i hi]
    exact this
  · intro w i hi
    have hi:=List.mem_range.mp hi
    show p ((⟨l⟩:Array Nat).getD i 0)=true
    rw [g i hi]
    exact w _ (List.getElem_mem hi)
theorem small5 {n:Nat}(h:n≤100000):n≤sizeLine:=Nat.le_trans h (by decide)
theorem flat8:ws8.all flatV=true:=by decide
section
variable {P:Program}{w:World}{K:PySem.W.Frag}{mg:Str→Option Value}{base:Heap}
theorem ok_is_of (B:Blt mg)(d:DefAt K mg "is_of" s_is_of ["word","signs"]):FnAt P w K mg base "is_of" ["word","signs"] 1 spOf:=by
  refine FnAt.of d sc_is_of (fun vs H Q E h=>?_) (fun f cdv A outer s H vs Q E hr h=>?_)
  · obtain ⟨x,y,rfl,_⟩:=h
    rfl
  obtain ⟨x,y,rfl,hl,q⟩:=h
  refine ⟨_,(pss_one (ps_ret (pe_callB (call_allK K) rfl B.all boot_allB (pa_cons (pe_comp ["sign"] [1] rfl (pi_str (pv 0)) (fun _ _ _ _ _=>pg_name (i:=0) (by show List.Nodup (["sign","signs"]:List Str);decide +kernel) rfl (Or.inl rfl)) (fun _ _ _ _ _=>pts_nil) (fun _ _ _ _ _=>(pe_cmpR op_in_str (pv 0) (pv 1) (by with_unfolding_all rfl))) ⟨⟨_,rfl,rfl,.inl rfl⟩,trivial⟩ gOwn_name) pa_nil)))),?_⟩
  walk_at "vc"
  obtain ⟨⟨l⟩⟩:=x
  refine compF (fun _=>true) (fun i=>.bl (decide ((⟨l⟩:Array Nat).getD i 0∈y.cps.toList))) (show l.length≤1000000 from Nat.le_trans hl (by decide)) (fun i H2 R hi s h=>h) (fun i H2 R hi _ s h=>?_) (fun D hD=>?_)
  · walk_at "vc"
    rw [show sgn ⟨⟨l⟩⟩ i=.str ⟨#[(⟨l⟩:Array Nat).getD i 0]⟩ from rfl]
    refine ⟨_,rfl,?_⟩
    rw [in_one]
    exact h
  · refine ⟨D,rfl,(List.range l.length).map fun i=>decide ((⟨l⟩:Array Nat).getD i 0∈y.cps.toList),SqL.of ?_,?_⟩
    · rw [upd_same,List.filter_eq_self.mpr (fun _ _=>rfl),List.map_map]
      rfl
    · rw [range_all l fun c=>decide (c∈y.cps.toList)]
      exact q _ (Same.new hD)
theorem ok_is_name (cN:∃ t,mg "LONGEST_NAME"=some (.int 8 t)) (cL:∃ t,mg "LETTERS"=some (.str letS t)) (cW:∃ a,mg "WORDS"=some (.ref a)∧∀ H,SqT K H a ws8) (B:Blt mg) (h_is_of:FnAt P w K mg base "is_of" ["word","signs"] 1 spOf) (d:DefAt K mg "is_name" s_is_name ["word"]):FnAt P w K mg base "is_name" ["word"] 2 spName:=by
  obtain ⟨t1,c_LONGEST_NAME⟩:=cN
  obtain ⟨t2,c_LETTERS⟩:=cL
  obtain ⟨T_WORDS,c_WORDS,hW⟩:=cW
  refine FnAt.of d sc_is_name (fun vs H Q E h=>?_) (fun f cdv A outer s H vs Q E hr h=>?_)
  · obtain ⟨x,rfl,_⟩:=h
    rfl
  obtain ⟨x,rfl,hl,q⟩:=h
  refine ⟨_,(pss_one (ps_ret (pe_and (pe_chain op_le op_le pe_int (pe_callB call_len_str rfl B.len PySem.boot_len (pa_cons (pv 0) pa_nil)) (pe_glob (v:=.int 8) rfl c_LONGEST_NAME ⟨_,rfl⟩)) (pe_and (pe_callF h_is_of (hr.mono (by decide)) rfl (pa_cons (pv 0) (pa_cons (pe_glob (v:=.str (Str.ofString "abcdefghijklmnopqrstuvwxyz")) rfl c_LETTERS ⟨_,rfl⟩) pa_nil))) (pe_one (pe_cmpR (op_notInK K) (pv 0) (pe_glob (v:=.ref T_WORDS) rfl c_WORDS rfl) (by with_unfolding_all rfl))))))),?_⟩
  walk_at "vc"
  obtain ⟨⟨l⟩⟩:=x
  refine ⟨small5 hl,?_⟩
  have e:nameB ⟨⟨l⟩⟩=(decide (1≤l.length)&&decide (l.length≤8)&&ofS ⟨⟨l⟩⟩ letS&&!inV (.str ⟨⟨l⟩⟩) ws8):=rfl
  have ln:(⟨⟨l⟩⟩:Str).length=l.length:=rfl
  rw [ln]
  by_cases c1:1≤l.length
  · rw [if_pos (by omega)]
    by_cases c2:l.length≤8
    · rw [if_pos (by omega)]
      refine ⟨⟨⟨l⟩⟩,letS,rfl,hl,fun H1 s1=>⟨_,rfl,?_⟩⟩
      have e2:nameB ⟨⟨l⟩⟩=(ofS ⟨⟨l⟩⟩ letS&&!inV (.str ⟨⟨l⟩⟩) ws8):=by rw [e,decide_eq_true c1,decide_eq_true c2];rfl
      cases ho:ofS ⟨⟨l⟩⟩ letS with
      | true =>
        rw [if_pos rfl]
        refine ⟨_,.inr (hW H1),rfl,flat8,?_⟩
        rw [ho,Bool.true_and] at e2
        rw [← e2]
        exact q H1 s1
      | false =>
        rw [if_neg (by decide)]
        rw [ho,Bool.false_and] at e2
        rw [← e2]
        exact q H1 s1
    · rw [if_neg (by omega)]
      have e2:nameB ⟨⟨l⟩⟩=false:=by rw [e,decide_eq_false c2,Bool.and_false,Bool.false_and,Bool.false_and]
      rw [← e2]
      exact q H (Same.refl _)
  · rw [if_neg (by omega)]
    have e2:nameB ⟨⟨l⟩⟩=false:=by rw [e,decide_eq_false c1,Bool.false_and,Bool.false_and,Bool.false_and]
    rw [← e2]
    exact q H (Same.refl _)
end
theorem comp0 {J:It}{n:Nat}{caps:List Nat}{g:TG}{tt:TT}{te:TE}{σ:L2.St}{H1:Hp}{Q:VK}(hs:∀ D,H1 D=none→J.stop 0 (upd H1 D (.lst [])))(hq:∀ D,H1 D=none→Q (.ref D) (upd H1 D (.lst []))):CompJ J n caps g tt te σ H1 Q:=fun D hD =>
  ⟨fun i _ H2=>i=0∧H2=upd H1 D (.lst []),⟨0,rfl,rfl⟩,fun i _ H2 ⟨e1,e2⟩=>.inl (by subst e1 e2;exact ⟨hs D hD,hq D hD⟩)⟩
theorem loop0 {J:It}{g:TG}{tb:TS}{D:Ends}{σ:L2.St}{H:Hp}(hs:J.stop 0 H)(hq:D.nx σ H):LoopJ J g tb D σ H :=
  ⟨fun i _ σ' H'=>i=0∧σ'=σ∧H'=H,⟨0,rfl,rfl,rfl⟩,fun i _ σ' H' ⟨e1,e2,e3⟩=>.inl (by subst e1 e2 e3;exact ⟨hs,hq⟩)⟩
def Fx (x:Addr)(H H':Hp):Prop:=∀ b o,b≠x→H b=some o→H' b=some o
theorem Fx.of {x:Addr}{H H':Hp}(s:Same H H'):Fx x H H':=fun b o _ e=>s b o e
theorem Fx.trans {x:Addr}{H H' H'':Hp}(a:Fx x H H')(b:Fx x H' H''):Fx x H H'':=fun c o n e=>b c o n (a c o n e)
theorem Fx.put {x:Addr}{H H':Hp}{o:HO}(a:Fx x H H'):Fx x H (upd H' x o):=fun c oc n e=>by rw [upd_ne n];exact a c oc n e
theorem mk_same {H H':Hp}{x dx:Addr}{o o':HO}(h1:H x=none)(h2:H dx=none)(f:Fx x (upd (upd H dx o) x o') H'):Same H H':=fun b ob e=>by
  have nb:b≠x:=ne_of_none e h1
  refine f b ob nb ?_
  rw [upd_ne nb,upd_ne (ne_of_none e h2)]
  exact e
def MkE (CM:Addr)(H:Hp)(p:Addr):Prop:=∃ dx a b c,H p=some (.ins CM dx [("keyed",.ref a),("aheads",.ref b),("stretches",.ref c),("held",.int 0)])∧H a=some (.lst [])∧H b=some (.lst [])∧H c=some (.lst [])
theorem MkE.same {CM:Addr}{H H':Hp}{p:Addr}(s:Same H H')(h:MkE CM H p):MkE CM H' p:=by
  obtain ⟨dx,a,b,c,h1,h2,h3,h4⟩:=h
  exact ⟨dx,a,b,c,s _ _ h1,s _ _ h2,s _ _ h3,s _ _ h4⟩
theorem MkE.fx {CM x:Addr}{H H':Hp}{p:Addr}{C dx:Addr}{fs:List (Str × V)}(n:p≠x)(hx:H x=some (.ins C dx fs))(s:Fx x H H')(h:MkE CM H p):MkE CM H' p:=by
  obtain ⟨dx',a,b,c,h1,h2,h3,h4⟩:=h
  have k:∀ {l:Addr},H l=some (.lst [])→H' l=some (.lst []):=fun {l} e=>s _ _ (fun z=>by rw [z,hx] at e;cases e) e
  exact ⟨dx',a,b,c,s _ _ n h1,k h2,k h3,k h4⟩
def spMI (CM:Addr):Sp:=fun vs H Q _=>∃ (x dx:Addr),vs=[.ref x]∧H x=some (.ins CM dx [])∧∀ H',Fx x H H'→MkE CM H' x→Q .non H'
section
variable {P:Program}{w:World}{K:PySem.W.Frag}{mg:Str→Option Value}{base:Heap}{CM:Addr}
theorem ok_MI (cd:CD_Marks K mg CM):MakeAt P w K mg base "Marks" CM ["self"] 1 (spMI CM):=by
  refine MakeAt.of cd.at_ cd.init sc_Marks___init__ (fun vs H Q E h=>?_) (fun f cdv A outer s H vs Q E hr h=>?_)
  · obtain ⟨x,dx,rfl,_⟩:=h
    rfl
  obtain ⟨x,dx,rfl,hx,q⟩:=h
  refine ⟨_,(pss_cons (ps_fldK K (pv 0) (pe_lst pa_nil))
      (pss_cons (ps_fldK K (pv 0) (pe_lst pa_nil))
      (pss_cons (ps_fldK K (pv 0) (pe_lst pa_nil))
      (pss_one (ps_fldK K (pv 0) pe_int))))),?_⟩
  walk_at "vc"
  refine ⟨by decide,fun p1 n1=>⟨_,_,_,(Same.new n1) _ _ hx,cd.c,cd.n_keyed,by decide,by decide,fun p2 n2=>⟨_,_,_,(Same.new n2) _ _ upd_same,cd.c,cd.n_aheads,by show 1<1000;decide,by decide,fun p3 n3=>⟨_,_,_,(Same.new n3) _ _ upd_same,cd.c,cd.n_stretches,by show 2<1000;decide,_,_,_,upd_same,cd.c,cd.n_held,by show 3<1000;decide,q _ ?_ ?_⟩⟩⟩⟩
  · exact ((((Fx.of (Same.new n1)).put.trans (Fx.of (Same.new n2))).put.trans (Fx.of (Same.new n3))).put).put
  · have x1:p1≠x:=Ne.symm (ne_of_none hx n1)
    have x2:p2≠x:=fun z=>by rw [z,upd_same] at n2;cases n2
    have x3:p3≠x:=fun z=>by rw [z,upd_same] at n3;cases n3
    refine ⟨dx,p1,p2,p3,upd_same,?_,?_,?_⟩
    · have e1:=upd_same (H:=H) (a:=p1) (o:=.lst [])
      have e2:=(Fx.of (x:=x) (Same.refl _)).put (o:=.ins CM dx [("keyed",.ref p1)]) _ _ x1 e1
      have e3:=(Fx.of (Same.new (o:=.lst []) n2)).put (o:=.ins CM dx [("keyed",.ref p1),("aheads",.ref p2)]) _ _ x1 e2
      have e4:=(Fx.of (Same.new (o:=.lst []) n3)).put (o:=.ins CM dx [("keyed",.ref p1),("aheads",.ref p2),("stretches",.ref p3)]) _ _ x1 e3
      rw [upd_ne x1]
      exact e4
    · have e2:=upd_same (H:=upd (upd H p1 (.lst [])) x (.ins CM dx [("keyed",.ref p1)])) (a:=p2) (o:=.lst [])
      have e3:=(Fx.of (x:=x) (Same.refl _)).put (o:=.ins CM dx [("keyed",.ref p1),("aheads",.ref p2)]) _ _ x2 e2
      have e4:=(Fx.of (Same.new (o:=.lst []) n3)).put (o:=.ins CM dx [("keyed",.ref p1),("aheads",.ref p2),("stretches",.ref p3)]) _ _ x2 e3
      rw [upd_ne x2]
      exact e4
    · rw [upd_ne x3,upd_ne x3,upd_same]
def spMTold (CM:Addr):Sp:=fun vs H Q _=>∃ (x:Addr),vs=[.ref x]∧MkE CM H x∧∀ p H',Same H H'→H p=none→H' p=some (.lst [])→Q (.ref p) H'
theorem ok_MTold (B:Blt mg)(cd:CD_Marks K mg CM):MethAt P w K mg base CM "told" ["self"] 7 (spMTold CM):=by
  refine MethAt.of cd.c cd.m_told sc_Marks_told (fun vs H Q E h=>?_) (fun f cdv A outer s H vs Q E hr h=>?_)
  · obtain ⟨x,rfl,_⟩:=h
    rfl
  obtain ⟨x,rfl,⟨dx,a,b,c,hx,ha,hb,hc⟩,q⟩:=h
  refine ⟨_,(pss_one (ps_ret (pe_comp ["key","stretch"] [] rfl (pi_zipK K rfl B.zip (pa_cons (pe_fldK K (pv 0)) (pa_cons (pe_fldK K (pv 0)) pa_nil))) (fun _ _ _ _ _=>pg_tupK (n:=2) K rfl (pgs_cons (pg_name (i:=0) (by show List.Nodup (["key","stretch"]:List Str);decide +kernel) rfl (Or.inl rfl)) (pgs_cons (pg_name (i:=1) (by show List.Nodup (["key","stretch"]:List Str);decide +kernel) rfl (Or.inl rfl)) pgs_nil))) (fun _ _ _ _ _=>pts_nil) (fun _ _ _ _ _=>(pe_tup (pa_cons (pv 0) (pa_cons (pe_meD0 (P:=P) (w:=w) (K:=K) (mg:=mg) (base:=base) 6 (hr.mono (by decide)) (pv 1)) (pa_cons (pe_meD0 (P:=P) (w:=w) (K:=K) (mg:=mg) (base:=base) 6 (hr.mono (by decide)) (pv 1)) pa_nil))))) trivial gOwn_pair))),?_⟩
  walk_at "vc"
  refine ⟨_,_,_,hx,cd.c,cd.n_keyed,_,rfl,_,_,_,hx,cd.c,cd.n_stretches,_,rfl,_,_,⟨rfl,rfl⟩,⟨_,SqL.of ha⟩,⟨_,SqL.of hc⟩,?_⟩
  exact comp0 (fun D hD=>⟨[],[],SqL.of ((Same.new hD) _ _ ha),SqL.of ((Same.new hD) _ _ hc),.inl (Nat.le_refl _)⟩) fun D hD=>q D _ (Same.new hD) hD upd_same
def spMMany (CM:Addr):Sp:=fun vs H Q _=>∃ (x:Addr),vs=[.ref x]∧MkE CM H x∧Q (.int 0) H
theorem ok_MMany (cd:CD_Marks K mg CM):MethAt P w K mg base CM "many" ["self"] 1 (spMMany CM):=by
  refine MethAt.of cd.c cd.m_many sc_Marks_many (fun vs H Q E h=>?_) (fun f cdv A outer s H vs Q E hr h=>?_)
  · obtain ⟨x,rfl,_⟩:=h
    rfl
  obtain ⟨x,rfl,⟨dx,a,b,c,hx,ha,hb,hc⟩,q⟩:=h
  refine ⟨_,(pss_one (ps_ret (pe_fldK K (pv 0)))),?_⟩
  walk_at "vc"
  exact ⟨_,_,_,hx,cd.c,cd.n_held,_,rfl,q⟩
def spMCop (CM:Addr):Sp:=fun vs H Q _=>∃ (x:Addr),vs=[.ref x]∧MkE CM H x∧∀ p H',Same H H'→H p=none→MkE CM H' p→Q (.ref p) H'
theorem ok_MCop (B:Blt mg)(h_Marks:MakeAt P w K mg base "Marks" CM ["self"] 1 (spMI CM))(cd:CD_Marks K mg CM):MethAt P w K mg base CM "copied" ["self"] 3 (spMCop CM):=by
  refine MethAt.of cd.c cd.m_copied sc_Marks_copied (fun vs H Q E h=>?_) (fun f cdv A outer s H vs Q E hr h=>?_)
  · obtain ⟨x,rfl,_⟩:=h
    rfl
  obtain ⟨x,rfl,⟨dx,a,b,c,hx,ha,hb,hc⟩,q⟩:=h
  refine ⟨_,(pss_cons (ps_set (i:=1) sc_Marks_copied.nd rfl (by walk_at "l") (pe_makeF0 h_Marks (hr.mono (by decide)) rfl))
      (pss_cons (ps_fldK K (pv 1) (pe_callTy (call_listK K) rfl B.lst boot_list (pa_cons (pe_fldK K (pv 0)) pa_nil)))
      (pss_cons (ps_fldK K (pv 1) (pe_callTy (call_listK K) rfl B.lst boot_list (pa_cons (pe_fldK K (pv 0)) pa_nil)))
      (pss_cons (ps_fldK K (pv 1) (pe_callTy (call_listK K) rfl B.lst boot_list (pa_cons (pe_fldK K (pv 0)) pa_nil)))
      (pss_cons (ps_fldK K (pv 1) (pe_fldK K (pv 0)))
      (pss_one (ps_ret (pv 1)))))))),?_⟩
  walk_at "vc"
  refine fun y dy ny ndy hne=>⟨y,dy,rfl,upd_same,fun H2 f2 ⟨d2,a2,b2,c2,e1,e2,e3,e4⟩=>⟨rfl,?_⟩⟩
  have sm:=mk_same ny ndy f2
  have xy:x≠y:=ne_of_none hx ny
  have stp:∀ (H3:Hp) (l:Addr) (fs fs':List (Str × V)),Same H H3→H3 y=some (.ins CM d2 fs)→H3 l=none→Same H (upd (upd H3 l (.lst [])) y (.ins CM d2 fs'))∧upd (upd H3 l (.lst [])) y (.ins CM d2 fs') l=some (.lst [])∧∀ l',H3 l'=some (.lst [])→upd (upd H3 l (.lst [])) y (.ins CM d2 fs') l'=some (.lst []):=fun H3 l fs fs' s3 hy nl=>by
    have ly:l≠y:=fun z=>by rw [z,hy] at nl;cases nl
    refine ⟨fun b ob e=>?_,by rw [upd_ne ly,upd_same],fun l' e=>?_⟩
    · rw [upd_ne (ne_of_none e ny)]
      exact (Same.new nl) _ _ (s3 _ _ e)
    · have:l'≠y:=fun z=>by rw [z,hy] at e;cases e
      rw [upd_ne this]
      exact (Same.new nl) _ _ e
  refine ⟨_,_,_,sm _ _ hx,cd.c,cd.n_keyed,_,rfl,_,rfl,_,.inl (SqL.of (sm _ _ ha)),fun l1 n1=>⟨_,_,_,(Same.new n1) _ _ e1,cd.c,cd.n_keyed,by show 4<1000;decide,?_⟩⟩
  obtain ⟨s3,k3,_⟩:=stp H2 l1 _ (putF "keyed" (.ref l1) [("keyed",.ref a2),("aheads",.ref b2),("stretches",.ref c2),("held",.int 0)]) sm e1 n1
  have y3:=upd_same (H:=upd H2 l1 (.lst [])) (a:=y) (o:=.ins CM d2 (putF "keyed" (.ref l1) [("keyed",.ref a2),("aheads",.ref b2),("stretches",.ref c2),("held",.int 0)]))
  generalize upd (upd H2 l1 (.lst [])) y (.ins CM d2 (putF "keyed" (.ref l1) [("keyed",.ref a2),("aheads",.ref b2),("stretches",.ref c2),("held",.int 0)]))=H3 at s3 k3 y3
  refine ⟨_,_,_,s3 _ _ hx,cd.c,cd.n_aheads,_,rfl,_,rfl,_,.inl (SqL.of (s3 _ _ hb)),fun l2 n2=>⟨_,_,_,(Same.new n2) _ _ y3,cd.c,cd.n_aheads,by show 4<1000;decide,?_⟩⟩
  obtain ⟨s4,k4,k3'⟩:=stp H3 l2 _ (putF "aheads" (.ref l2) (putF "keyed" (.ref l1) [("keyed",.ref a2),("aheads",.ref b2),("stretches",.ref c2),("held",.int 0)])) s3 y3 n2
  have k3:=k3' _ k3
  have y4:=upd_same (H:=upd H3 l2 (.lst [])) (a:=y) (o:=.ins CM d2 (putF "aheads" (.ref l2) (putF "keyed" (.ref l1) [("keyed",.ref a2),("aheads",.ref b2),("stretches",.ref c2),("held",.int 0)])))
  generalize upd (upd H3 l2 (.lst [])) y (.ins CM d2 (putF "aheads" (.ref l2) (putF "keyed" (.ref l1) [("keyed",.ref a2),("aheads",.ref b2),("stretches",.ref c2),("held",.int 0)])))=H4 at s4 k4 k3 y4
  refine ⟨_,_,_,s4 _ _ hx,cd.c,cd.n_stretches,_,rfl,_,rfl,_,.inl (SqL.of (s4 _ _ hc)),fun l3 n3=>⟨_,_,_,(Same.new n3) _ _ y4,cd.c,cd.n_stretches,by show 4<1000;decide,?_⟩⟩
  obtain ⟨s5,k5,k4'⟩:=stp H4 l3 _ (putF "stretches" (.ref l3) (putF "aheads" (.ref l2) (putF "keyed" (.ref l1) [("keyed",.ref a2),("aheads",.ref b2),("stretches",.ref c2),("held",.int 0)]))) s4 y4 n3
  have k3:=k4' _ k3
  have k4:=k4' _ k4
  have y5:=upd_same (H:=upd H4 l3 (.lst [])) (a:=y) (o:=.ins CM d2 (putF "stretches" (.ref l3) (putF "aheads" (.ref l2) (putF "keyed" (.ref l1) [("keyed",.ref a2),("aheads",.ref b2),("stretches",.ref c2),("held",.int 0)]))))
  generalize upd (upd H4 l3 (.lst [])) y (.ins CM d2 (putF "stretches" (.ref l3) (putF "aheads" (.ref l2) (putF "keyed" (.ref l1) [("keyed",.ref a2),("aheads",.ref b2),("stretches",.ref c2),("held",.int 0)]))))=H5 at s5 k5 k4 k3 y5
  refine ⟨_,_,_,s5 _ _ hx,cd.c,cd.n_held,_,rfl,_,_,_,y5,cd.c,cd.n_held,by show 4<1000;decide,q y _ (fun b ob e=>?_) ny ⟨d2,l1,l2,l3,upd_same,?_,?_,?_⟩⟩
  · rw [upd_ne (ne_of_none e ny)]
    exact s5 _ _ e
  · rw [upd_ne (fun z=>by rw [z,y5] at k3;cases k3)]
    exact k3
  · rw [upd_ne (fun z=>by rw [z,y5] at k4;cases k4)]
    exact k4
  · rw [upd_ne (fun z=>by rw [z,y5] at k5;cases k5)]
    exact k5
end
theorem seq_step {t u:TS}{D:Ends}{σ:L2.St}{H:Hp}(h:∀ k:L2.St→Hp→Prop,(∀ σ' H',u D σ' H'→k σ' H')→t { D with nx:=k } σ H):tSeq t u D σ H:=h (u D) fun _ _ x=>x
def ColE (CM C:Addr)(f:Str)(v:V)(H:Hp)(x:Addr):Prop:=∃ dx m d1 d2,H x=some (.ins C dx [("valued",.ref m),("by_number",.ref d1),("by_key",.ref d2),(f,v)])∧MkE CM H m∧H d1=some (.dK [])∧H d2=some (.dK [])
theorem ColE.same {CM C:Addr}{f:Str}{v:V}{H H':Hp}{x:Addr}(s:Same H H')(h:ColE CM C f v H x):ColE CM C f v H' x:=by
  obtain ⟨dx,m,d1,d2,h1,h2,h3,h4⟩:=h
  exact ⟨dx,m,d1,d2,s _ _ h1,h2.same s,s _ _ h3,s _ _ h4⟩
def spCI (CM C:Addr):Sp:=fun vs H Q _=>∃ (x dx:Addr),vs=[.ref x]∧H x=some (.ins C dx [])∧∀ m d1 d2 H',Fx x H H'→H' x=some (.ins C dx [("valued",.ref m),("by_number",.ref d1),("by_key",.ref d2)])→MkE CM H' m→H' d1=some (.dK [])→H' d2=some (.dK [])→H d1=none→H d2=none→Q .non H'
theorem none_of {H H':Hp}{p:Addr}(s:Same H H')(h:H' p=none):H p=none:=by
  cases e:H p with
  | none=>rfl
  | some o=>rw [s _ _ e] at h;cases h
structure ClC (K:PySem.W.Frag)(C:Addr):Prop where
  c:Cls K C
  n1:NoAttr K C "valued"
  n2:NoAttr K C "by_number"
  n3:NoAttr K C "by_key"
section
variable {P:Program}{w:World}{K:PySem.W.Frag}{mg:Str→Option Value}{base:Heap}{CM:Addr}
theorem ok_CI {C M f:Addr}{fd:FuncData}(h_Marks:MakeAt P w K mg base "Marks" CM ["self"] 1 (spMI CM))(cc:ClC K C)(bc:ByCls K mg "Column" "__init__" M f)(F:Fun K "__init__" "Column.__init__" s_Column___init__ f fd)(b:Binds K fd ["self"] []):BaseAt P w K mg base "Column" "__init__" ["self"] 3 (spCI CM C):=by
  refine ⟨M,f,fd,bc,?_,b⟩
  refine F.ok sc_Column___init__ (fun vs H Q E h=>?_) (fun cdv A outer s H vs Q E hr h=>?_)
  · obtain ⟨x,dx,rfl,_⟩:=h
    rfl
  obtain ⟨x,dx,rfl,hx,q⟩:=h
  refine ⟨_,(pss_cons (ps_fldK K (pv 0) (pe_makeF0 h_Marks (hr.mono (by decide)) rfl))
      (pss_cons (ps_fldK K (pv 0) pe_dnewK)
      (pss_one (ps_fldK K (pv 0) pe_dnewK)))),?_⟩
  walk_at "vc"
  refine fun m dm nm ndm hne=>⟨m,dm,rfl,upd_same,fun H2 f2 me=>⟨rfl,?_⟩⟩
  have sm:=mk_same nm ndm f2
  have xm:x≠m:=ne_of_none hx nm
  have hx2:=sm _ _ hx
  refine ⟨_,_,_,hx2,cc.c,cc.n1,by decide,fun p1 n1=>⟨_,_,_,(Same.new n1) _ _ upd_same,cc.c,cc.n2,by show 1<1000;decide,fun p2 n2=>⟨_,_,_,(Same.new n2) _ _ upd_same,cc.c,cc.n3,by show 2<1000;decide,?_⟩⟩⟩
  have p1x:p1≠x:=fun z=>by rw [z,upd_same] at n1;cases n1
  have p2x:p2≠x:=fun z=>by rw [z,upd_same] at n2;cases n2
  have g1:Fx x H2 (upd H2 x (.ins C dx [("valued",.ref m)])):=(Fx.of (Same.refl _)).put
  have g2:=(g1.trans (Fx.of (Same.new (o:=.dK []) n1))).put (o:=.ins C dx [("valued",.ref m),("by_number",.ref p1)])
  have g3:=(g2.trans (Fx.of (Same.new (o:=.dK []) n2))).put (o:=.ins C dx [("valued",.ref m),("by_number",.ref p1),("by_key",.ref p2)])
  refine q m p1 p2 _ ((Fx.of sm).trans g3) upd_same (me.fx (Ne.symm xm) hx2 g3) ?_ ?_ (none_of sm (by rw [upd_ne p1x] at n1;exact n1)) ?_
  · have e1:=upd_same (H:=upd H2 x (.ins C dx [("valued",.ref m)])) (a:=p1) (o:=.dK [])
    have e2:upd (upd (upd H2 x (.ins C dx [("valued",.ref m)])) p1 (.dK [])) x (.ins C dx [("valued",.ref m),("by_number",.ref p1)]) p1=some (.dK []):=by rw [upd_ne p1x];exact e1
    rw [upd_ne p1x]
    exact (Same.new n2) _ _ e2
  · rw [upd_ne p2x,upd_same]
  · refine none_of sm ?_
    rw [upd_ne p2x] at n2
    have n3:=none_of (Same.new (o:=.dK []) n1) n2
    rw [upd_ne p2x] at n3
    exact n3
def spVI (CM C:Addr)(f:Str):Sp:=fun vs H Q _=>∃ (x dx:Addr) (v:V),vs=[.ref x,v]∧H x=some (.ins C dx [])∧∀ H',Fx x H H'→ColE CM C f v H' x→(∀ d kvs,H d=some (.dK kvs)→ColE CM C f v (del H' d) x)→Q .non H'
theorem ColE.mk {C x dx m d1 d2:Addr}{f:Str}{v:V}{H1:Hp}(e1:H1 x=some (.ins C dx [("valued",.ref m),("by_number",.ref d1),("by_key",.ref d2)]))(me:MkE CM H1 m)(k1:H1 d1=some (.dK []))(k2:H1 d2=some (.dK []))(mx:m≠x):ColE CM C f v (upd H1 x (.ins C dx [("valued",.ref m),("by_number",.ref d1),("by_key",.ref d2),(f,v)])) x:=by
  refine ⟨dx,m,d1,d2,upd_same,me.fx mx e1 (Fx.of (Same.refl _)).put,?_,?_⟩
  · rw [upd_ne (fun z=>by rw [z,e1] at k1;cases k1)]
    exact k1
  · rw [upd_ne (fun z=>by rw [z,e1] at k2;cases k2)]
    exact k2
theorem MkE.ne {H:Hp}{m x C dx:Addr}{fs:List (Str × V)}(me:MkE CM H m)(hx:H x=some (.ins C dx (("valued",.ref m)::fs))):m≠x:=fun z=>by
  obtain ⟨_,_,_,_,h1,_⟩:=me
  rw [z,hx] at h1
  injection h1 with h1
  injection h1 with _ _ h1
  injection h1 with h1
  injection h1 with h1
  revert h1
  decide +kernel
theorem ColE.off {C x dx m d1 d2 d:Addr}{f:Str}{v:V}{H H1:Hp}{kvs:List (Key × V)}(hx:H x=some (.ins C dx []))(f1:Fx x H H1)(e1:H1 x=some (.ins C dx [("valued",.ref m),("by_number",.ref d1),("by_key",.ref d2)]))(me:MkE CM H1 m)(k1:H1 d1=some (.dK []))(k2:H1 d2=some (.dK []))(n1:H d1=none)(n2:H d2=none)(hd:H d=some (.dK kvs)):ColE CM C f v (del (upd H1 x (.ins C dx [("valued",.ref m),("by_number",.ref d1),("by_key",.ref d2),(f,v)])) d) x:=by
  have mx:m≠x:=me.ne e1
  obtain ⟨dm,a,b,c,g1,g2,g3,g4⟩:=me
  have dx':d≠x:=fun z=>by rw [z,hx] at hd;cases hd
  have hd1:=f1 _ _ dx' hd
  have no:∀ {p:Addr} {o:HO},H1 p=some o→p≠x→d≠p→del (upd H1 x (.ins C dx [("valued",.ref m),("by_number",.ref d1),("by_key",.ref d2),(f,v)])) d p=some o:=fun {p o} e np nd=>by
    rw [del_ne (Ne.symm nd),upd_ne np]
    exact e
  have ty:∀ {p:Addr} {o:HO},H1 p=some o→o≠.dK kvs→d≠p:=fun {p o} e no z=>by
    rw [← z,hd1] at e
    exact no (Option.some.inj e).symm
  refine ⟨dx,m,d1,d2,by rw [del_ne (Ne.symm dx'),upd_same],⟨dm,a,b,c,no g1 mx (ty g1 fun z=>by cases z),no g2 (fun z=>by rw [z,e1] at g2;cases g2) (ty g2 fun z=>by cases z),no g3 (fun z=>by rw [z,e1] at g3;cases g3) (ty g3 fun z=>by cases z),no g4 (fun z=>by rw [z,e1] at g4;cases g4) (ty g4 fun z=>by cases z)⟩,no k1 (fun z=>by rw [z,e1] at k1;cases k1) (fun z=>by rw [← z,hd] at n1;cases n1),no k2 (fun z=>by rw [z,e1] at k2;cases k2) (fun z=>by rw [← z,hd] at n2;cases n2)⟩
theorem ok_VI {CV:Addr}(cd:CD_ByValue K mg CV)(hb_Column:BaseAt P w K mg base "Column" "__init__" ["self"] 3 (spCI CM CV)):MakeAt P w K mg base "ByValue" CV ["self","top"] 4 (spVI CM CV "greatest"):=by
  refine MakeAt.of cd.at_ cd.init sc_ByValue___init__ (fun vs H Q E h=>?_) (fun f cdv A outer s H vs Q E hr h=>?_)
  · obtain ⟨x,dx,v,rfl,_⟩:=h
    rfl
  obtain ⟨x,dx,v,rfl,hx,q⟩:=h
  refine ⟨_,(pss_cons (ps_expr (pe_base hb_Column (hr.mono (by decide)) rfl (pa_cons (pv 0) pa_nil)))
      (pss_one (ps_fldK K (pv 0) (pv 1)))),?_⟩
  walk_at "vc"
  exact ⟨x,dx,rfl,hx,fun m d1 d2 H1 f1 e1 me k1 k2 z1 z2=>⟨_,_,_,e1,cd.c,cd.n_greatest,by show 3<1000;decide,q _ f1.put (ColE.mk e1 me k1 k2 (me.ne e1)) fun d kvs hd=>ColE.off hx f1 e1 me k1 k2 z1 z2 hd⟩⟩
theorem ok_BI {CB:Addr}(cd:CD_ByBits K mg CB)(hb_Column:BaseAt P w K mg base "Column" "__init__" ["self"] 3 (spCI CM CB)):MakeAt P w K mg base "ByBits" CB ["self","width"] 4 (spVI CM CB "width"):=by
  refine MakeAt.of cd.at_ cd.init sc_ByBits___init__ (fun vs H Q E h=>?_) (fun f cdv A outer s H vs Q E hr h=>?_)
  · obtain ⟨x,dx,v,rfl,_⟩:=h
    rfl
  obtain ⟨x,dx,v,rfl,hx,q⟩:=h
  refine ⟨_,(pss_cons (ps_expr (pe_base hb_Column (hr.mono (by decide)) rfl (pa_cons (pv 0) pa_nil)))
      (pss_one (ps_fldK K (pv 0) (pv 1)))),?_⟩
  walk_at "vc"
  exact ⟨x,dx,rfl,hx,fun m d1 d2 H1 f1 e1 me k1 k2 z1 z2=>⟨_,_,_,e1,cd.c,cd.n_width,by show 3<1000;decide,q _ f1.put (ColE.mk e1 me k1 k2 (me.ne e1)) fun d kvs hd=>ColE.off hx f1 e1 me k1 k2 z1 z2 hd⟩⟩
def spSets (CM C:Addr)(f:Str):Sp:=fun vs H Q _=>∃ (x:Addr) (v:V),vs=[.ref x]∧ColE CM C f v H x∧∀ p H',Same H H'→H p=none→H' p=some (.lst [])→Q (.ref p) H'
theorem ok_sets {C:Addr}{f:Str}(B:Blt mg)(cc:ClC K C)(d:MDefAt K C "sets" "Column.sets" s_Column_sets ["self"]):MethAt P w K mg base C "sets" ["self"] 8 (spSets CM C f):=by
  refine MethAt.of cc.c d sc_Column_sets (fun vs H Q E h=>?_) (fun f cdv A outer s H vs Q E hr h=>?_)
  · obtain ⟨x,v,rfl,_⟩:=h
    rfl
  obtain ⟨x,v,rfl,⟨dx,m,d1,d2,hx,me,k1,k2⟩,q⟩:=h
  refine ⟨_,(pss_one (ps_ret (pe_comp ["number"] [0] rfl (pi_listK K (pe_callB call_sortedD rfl B.sorted L2.boot_sorted (pa_cons (pe_fldK K (pv 0)) pa_nil))) (fun _ _ _ _ _=>pg_name (i:=0) (by show List.Nodup (["number","self"]:List Str);decide +kernel) rfl (Or.inl rfl)) (fun _ _ _ _ _=>pts_nil) (fun _ _ _ _ _=>(pe_tup (pa_cons (pv 0) (pa_cons (pe_meD0 (P:=P) (w:=w) (K:=K) (mg:=mg) (base:=base) 7 (hr.mono (by decide)) (pe_dget (hu1 hr) (pe_fldK K (pv 1)) (pv 0) (fun _ _=>rfl))) pa_nil)))) ⟨⟨_,rfl,rfl,.inl rfl⟩,trivial⟩ gOwn_name))),?_⟩
  walk_at "vc"
  refine ⟨_,_,_,hx,cc.c,cc.n2,_,rfl,_,rfl,_,k1,[],rfl,fun l ns nl pm _=>?_⟩
  rw [List.perm_nil.mp pm]
  refine ⟨⟨_,SqL.of upd_same⟩,?_⟩
  exact comp0 (fun D hD=>⟨[],SqL.of ((Same.new hD) _ _ upd_same),Nat.le_refl _⟩) fun D hD=>q D _ ((Same.new nl).trans (Same.new hD)) (by
    have:D≠l:=fun z=>by rw [z,upd_same] at hD;cases hD
    rw [upd_ne this] at hD
    exact hD) upd_same
def spFresh (CM C:Addr)(f:Str):Sp:=fun vs H Q _=>∃ (x:Addr) (v:V),vs=[.ref x]∧ColE CM C f v H x∧∀ p H',Same H H'→H p=none→ColE CM C f v H' p→Q (.ref p) H'
theorem ok_freshV {CV:Addr}(cd:CD_ByValue K mg CV)(h_ByValue:MakeAt P w K mg base "ByValue" CV ["self","top"] 4 (spVI CM CV "greatest")):MethAt P w K mg base CV "fresh" ["self"] 6 (spFresh CM CV "greatest"):=by
  refine MethAt.of cd.c cd.m_fresh sc_ByValue_fresh (fun vs H Q E h=>?_) (fun f cdv A outer s H vs Q E hr h=>?_)
  · obtain ⟨x,v,rfl,_⟩:=h
    rfl
  obtain ⟨x,v,rfl,⟨dx,m,d1,d2,hx,me,k1,k2⟩,q⟩:=h
  refine ⟨_,(pss_one (ps_ret (pe_makeF h_ByValue (hr.mono (by decide)) rfl (pa_cons (pe_fldK K (pv 0)) pa_nil)))),?_⟩
  walk_at "vc"
  exact ⟨_,_,_,hx,cd.c,cd.n_greatest,_,rfl,fun y dy ny ndy hne=>⟨y,dy,v,rfl,upd_same,fun H2 f2 c2 _=>⟨rfl,q y H2 (mk_same ny ndy f2) ny c2⟩⟩⟩
theorem ok_freshB {CB:Addr}(cd:CD_ByBits K mg CB)(h_ByBits:MakeAt P w K mg base "ByBits" CB ["self","width"] 4 (spVI CM CB "width")):MethAt P w K mg base CB "fresh" ["self"] 6 (spFresh CM CB "width"):=by
  refine MethAt.of cd.c cd.m_fresh sc_ByBits_fresh (fun vs H Q E h=>?_) (fun f cdv A outer s H vs Q E hr h=>?_)
  · obtain ⟨x,v,rfl,_⟩:=h
    rfl
  obtain ⟨x,v,rfl,⟨dx,m,d1,d2,hx,me,k1,k2⟩,q⟩:=h
  refine ⟨_,(pss_one (ps_ret (pe_makeF h_ByBits (hr.mono (by decide)) rfl (pa_cons (pe_fldK K (pv 0)) pa_nil)))),?_⟩
  walk_at "vc"
  exact ⟨_,_,_,hx,cd.c,cd.n_width,_,rfl,fun y dy ny ndy hne=>⟨y,dy,v,rfl,upd_same,fun H2 f2 c2 _=>⟨rfl,q y H2 (mk_same ny ndy f2) ny c2⟩⟩⟩
theorem ok_topV {CV:Addr}(cd:CD_ByValue K mg CV):MethAt P w K mg base CV "top" ["self"] 1 (fun vs H Q _=>∃ (x:Addr) (n:Int),vs=[.ref x]∧ColE CM CV "greatest" (.int n) H x∧Q (.int n) H):=by
  refine MethAt.of cd.c cd.m_top sc_ByValue_top (fun vs H Q E h=>?_) (fun f cdv A outer s H vs Q E hr h=>?_)
  · obtain ⟨x,v,rfl,_⟩:=h
    rfl
  obtain ⟨x,v,rfl,⟨dx,m,d1,d2,hx,me,k1,k2⟩,q⟩:=h
  refine ⟨_,(pss_one (ps_ret (pe_fldK K (pv 0)))),?_⟩
  walk_at "vc"
  exact ⟨_,_,_,hx,cd.c,cd.n_greatest,_,rfl,q⟩
theorem ok_topB {CB:Addr}(cd:CD_ByBits K mg CB):MethAt P w K mg base CB "top" ["self"] 1 (fun vs H Q _=>∃ (x:Addr) (n:Int),vs=[.ref x]∧ColE CM CB "width" (.int n) H x∧0≤n∧n≤40∧Q (.int (2^n.toNat-1)) H):=by
  refine MethAt.of cd.c cd.m_top sc_ByBits_top (fun vs H Q E h=>?_) (fun f cdv A outer s H vs Q E hr h=>?_)
  · obtain ⟨x,v,rfl,_⟩:=h
    rfl
  obtain ⟨x,n,rfl,⟨dx,m,d1,d2,hx,me,k1,k2⟩,n0,n1,q⟩:=h
  refine ⟨_,(pss_one (ps_ret (pe_op op_sub (pe_op op_shlB pe_int (pe_fldK K (pv 0))) pe_int))),?_⟩
  walk_at "vc"
  refine ⟨_,_,_,hx,cd.c,cd.n_width,_,rfl,_,rfl,⟨n0,by omega,by decide⟩,?_⟩
  rw [Int.one_mul]
  exact q
theorem ok_copied {C:Addr}{f:Str}(hf:f="greatest"∨f="width")(B:Blt mg)(cc:ClC K C)(h_fr:MethAt P w K mg base C "fresh" ["self"] 6 (spFresh CM C f))(h_cp:MethAt P w K mg base CM "copied" ["self"] 3 (spMCop CM))(d:MDefAt K C "copied" "Column.copied" s_Column_copied ["self"]):MethAt P w K mg base C "copied" ["self"] 8 (spFresh CM C f):=by
  refine MethAt.of cc.c d sc_Column_copied (fun vs H Q E h=>?_) (fun f0 cdv A outer s H vs Q E hr h=>?_)
  · obtain ⟨x,v,rfl,_⟩:=h
    rfl
  obtain ⟨x,v,rfl,cx,q⟩:=h
  refine ⟨_,(pss_cons (ps_set (i:=1) sc_Column_copied.nd rfl (by walk_at "l") (pe_meD0 (P:=P) (w:=w) (K:=K) (mg:=mg) (base:=base) 6 (hr.mono (by decide)) (pv 0)))
      (pss_cons (ps_fldK K (pv 1) (pe_meD0 (P:=P) (w:=w) (K:=K) (mg:=mg) (base:=base) 3 (hr.mono (by decide)) (pe_fldK K (pv 0))))
      (pss_cons (ps_for PassesOwn.never rfl (pi_listK K (pe_callB call_sortedD rfl B.sorted L2.boot_sorted (pa_cons (pe_fldK K (pv 0)) pa_nil))) (pg_name (i:=2) sc_Column_copied.nd rfl (by walk_at "l")) (pss_one (ps_dput (hu1 hr) (pe_fldK K (pv 1)) (pv 2) (pe_meD0 (P:=P) (w:=w) (K:=K) (mg:=mg) (base:=base) 3 (hr.mono (by decide)) (pe_dget (hu1 hr) (pe_fldK K (pv 0)) (pv 2) (fun _ _=>rfl))) rfl)))
      (pss_cons (ps_for PassesOwn.never rfl (pi_listK K (pe_callB call_sortedD rfl B.sorted L2.boot_sorted (pa_cons (pe_fldK K (pv 0)) pa_nil))) (pg_name (i:=3) sc_Column_copied.nd rfl (by walk_at "l")) (pss_one (ps_dput (hu1 hr) (pe_fldK K (pv 1)) (pv 3) (pe_callTy call_dictOf rfl B.dct L2.boot_dict (pa_cons (pe_dget (hu1 hr) (pe_fldK K (pv 0)) (pv 3) (fun _ _=>rfl)) pa_nil)) rfl)))
      (pss_one (ps_ret (pv 1))))))),?_⟩
  obtain ⟨dx,m,d1,d2,hx,me,k1,k2⟩:=id cx
  refine seq_step fun k hk=>?_
  walk_at "vc"
  refine ⟨_,_,_,hx,by rcases hf with rfl | rfl<;>rfl,_,_,h_fr,x,v,rfl,cx,fun y H1 s1 ny cy=>hk _ _ (seq_step fun k hk=>?_)⟩
  have xy:x≠y:=ne_of_none hx ny
  have hx1:=s1 _ _ hx
  obtain ⟨dy,m1,e1,e2,hy,my,l1,l2⟩:=cy
  have me1:=me.same s1
  obtain ⟨dm,a,b,c,hm,_⟩:=id me1
  walk_at "vc"
  refine ⟨_,_,_,hx1,cc.c,cc.n1,_,rfl,_,rfl,_,_,_,hm,rfl,_,_,h_cp,m,rfl,me1,fun m2 H2 s2 nm2 me2=>?_⟩
  refine ⟨_,_,_,s2 _ _ hy,cc.c,cc.n1,by show 4<1000;decide,hk _ _ (seq_step fun k hk=>?_)⟩
  have m2y:m2≠y:=fun z=>by rw [z,hy] at nm2;cases nm2
  have g3:Fx y H2 (upd H2 y (.ins C dy (putF "valued" (.ref m2) [("valued",.ref m1),("by_number",.ref e1),("by_key",.ref e2),(f,v)]))):=(Fx.of (Same.refl _)).put
  have s3:Same H (upd H2 y (.ins C dy (putF "valued" (.ref m2) [("valued",.ref m1),("by_number",.ref e1),("by_key",.ref e2),(f,v)]))):=fun b ob e=>g3 _ _ (ne_of_none e ny) (s2 _ _ (s1 _ _ e))
  have me3:=me2.fx m2y (s2 _ _ hy) g3
  have dk:∀ {d:Addr},H1 d=some (.dK [])→upd H2 y (.ins C dy (putF "valued" (.ref m2) [("valued",.ref m1),("by_number",.ref e1),("by_key",.ref e2),(f,v)])) d=some (.dK []):=fun {d} e=>g3 _ _ (fun z=>by rw [z,hy] at e;cases e) (s2 _ _ e)
  have l1:=dk l1
  have l2:=dk l2
  have y3:=upd_same (H:=H2) (a:=y) (o:=.ins C dy (putF "valued" (.ref m2) [("valued",.ref m1),("by_number",.ref e1),("by_key",.ref e2),(f,v)]))
  generalize upd H2 y (.ins C dy (putF "valued" (.ref m2) [("valued",.ref m1),("by_number",.ref e1),("by_key",.ref e2),(f,v)]))=H3 at s3 me3 l1 l2 y3
  walk_at "vc"
  refine ⟨_,_,_,s3 _ _ hx,cc.c,cc.n2,_,rfl,_,rfl,_,s3 _ _ k1,[],rfl,fun l ns nl pm _=>?_⟩
  rw [List.perm_nil.mp pm]
  refine ⟨⟨_,SqL.of upd_same⟩,loop0 ⟨[],SqL.of upd_same,Nat.le_refl _⟩ (hk _ _ (seq_step fun k hk=>?_))⟩
  have s4:=Same.new (o:=.lst (([]:List Int).map V.int)) nl
  have s34:=s3.trans s4
  walk_at "vc"
  refine ⟨_,_,_,s34 _ _ hx,cc.c,cc.n3,_,rfl,_,rfl,_,s34 _ _ k2,[],rfl,fun l' ns' nl' pm' _=>?_⟩
  rw [List.perm_nil.mp pm']
  refine ⟨⟨_,SqL.of upd_same⟩,loop0 ⟨[],SqL.of upd_same,Nat.le_refl _⟩ (hk _ _ ?_)⟩
  have s5:=s4.trans (Same.new (o:=.lst (([]:List Int).map V.int)) nl')
  walk_at "vc"
  exact q y _ (s3.trans s5) ny ⟨dy,m2,e1,e2,s5 _ _ y3,me3.same s5,s5 _ _ l1,s5 _ _ l2⟩
end
abbrev Cl:=Str × Str × V
def SzOk (H:Hp):V→Prop
  | .int _=>True
  | .bl _=>True
  | .non=>True
  | .str _=>True
  | .ref p=>(∃ xs,H p=some (.tup xs))∨∃ xs,H p=some (.lst xs)
  | _=>False
theorem SzOk.same {H H':Hp}(s:Same H H'):∀ {v:V},SzOk H v→SzOk H' v
  | .int _,_=>trivial
  | .bl _,_=>trivial
  | .non,_=>trivial
  | .str _,_=>trivial
  | .ref p,h=>h.elim (fun ⟨xs,e⟩=>.inl ⟨xs,s _ _ e⟩) fun ⟨xs,e⟩=>.inr ⟨xs,s _ _ e⟩
def isI:V→Bool
  | .int _=>true
  | _=>false
def valuesS:Str:=Str.ofString "values"
def bitsS:Str:=Str.ofString "bits"
def sizeB (k:Str)(v:V):Bool:=match v with
  | .int i=>if k=valuesS then decide (0≤i∧i≤999) else decide (k=bitsS)&&decide (1≤i∧i≤40)
  | _=>false
def goodL:List Str→List Cl→Bool
  | _,[]=>true
  | seen,c::r=>nameB c.1&&!decide (c.1∈seen)&&sizeB c.2.1 c.2.2&&goodL (seen++[c.1]) r
def colsOk (cs:List Cl):Bool:=decide (1≤cs.length∧cs.length≤6)&&goodL [] cs
structure CsAt (H:Hp)(us:List V)(cs:List Cl):Prop where
  len:us.length=cs.length
  it:∀ (i:Nat) u c,us[i]?=some u→cs[i]?=some c→∃ a,u=.ref a∧H a=some (.tup [.str c.1,.str c.2.1,c.2.2])∧SzOk H c.2.2∧c.1.length≤1000
theorem CsAt.same {H H':Hp}{us:List V}{cs:List Cl}(s:Same H H')(h:CsAt H us cs):CsAt H' us cs:=⟨h.len,fun i u c e1 e2=>by
  obtain ⟨a,x,y,z,w⟩:=h.it i u c e1 e2
  exact ⟨a,x,s _ _ y,z.same s,w⟩⟩
def ColC (CM CV CB:Addr)(H:Hp)(c:Cl)(y:Addr):Prop:=if c.2.1=valuesS then ColE CM CV "greatest" c.2.2 H y else ColE CM CB "width" c.2.2 H y
theorem ColC.same {CM CV CB:Addr}{H H':Hp}{c:Cl}{y:Addr}(s:Same H H')(h:ColC CM CV CB H c y):ColC CM CV CB H' c y:=by
  unfold ColC at *
  split at h
  · rename_i z
    rw [if_pos z]
    exact h.same s
  · rename_i z
    rw [if_neg z]
    exact h.same s
structure DcAt (CM CV CB:Addr)(H:Hp)(kvs:List (Key × V))(cs:List Cl):Prop where
  len:kvs.length=cs.length
  it:∀ (i:Nat) kv c,kvs[i]?=some kv→cs[i]?=some c→kv.1=.inr c.1∧∃ y,kv.2=.ref y∧ColC CM CV CB H c y
theorem DcAt.same {CM CV CB:Addr}{H H':Hp}{kvs:List (Key × V)}{cs:List Cl}(s:Same H H')(h:DcAt CM CV CB H kvs cs):DcAt CM CV CB H' kvs cs:=⟨h.len,fun i u c e1 e2=>by
  obtain ⟨a,y,x,z⟩:=h.it i u c e1 e2
  exact ⟨a,y,x,z.same s⟩⟩
theorem sub_del {H:Hp}{d:Addr}:Same (del H d) H:=fun b o e=>(del_some e).2
theorem del_upd {H:Hp}{d:Addr}{o:HO}:del (upd H d o) d=del H d:=by
  funext b
  by_cases c:b=d
  · rw [c,del_same,del_same]
  · rw [del_ne c,del_ne c,upd_ne c]
theorem Same.del {H H':Hp}{d:Addr}(s:Same H H'):Same (del H d) (del H' d):=fun b o e=>by
  obtain ⟨n,e⟩:=del_some e
  rw [del_ne n]
  exact s _ _ e
theorem DcAt.keys {CM CV CB:Addr}{H:Hp}{kvs:List (Key × V)}{cs:List Cl}(h:DcAt CM CV CB H kvs cs):kvs.map (·.1)=cs.map fun c=>(Sum.inr c.1:Key):=by
  refine List.ext_getElem (by rw [List.length_map,List.length_map,h.len]) fun i a1 a2=>?_
  rw [List.length_map] at a1 a2
  rw [List.getElem_map,List.getElem_map]
  exact (h.it i _ _ (List.getElem?_eq_getElem a1) (List.getElem?_eq_getElem a2)).1
theorem DcAt.has {CM CV CB:Addr}{H:Hp}{kvs:List (Key × V)}{cs:List Cl}(h:DcAt CM CV CB H kvs cs)(x:Str):(valV kvs (.inr x)).isSome=decide (x∈cs.map (·.1)):=by
  rw [← valV_any,Bool.eq_iff_iff,decide_eq_true_eq,List.any_eq_true]
  have k:=h.keys
  constructor
  · rintro ⟨kv,hm,e⟩
    have e:=of_decide_eq_true e
    have:kv.1∈kvs.map (·.1):=List.mem_map.mpr ⟨kv,hm,rfl⟩
    rw [k,e] at this
    obtain ⟨c,hc,e'⟩:=List.mem_map.mp this
    exact List.mem_map.mpr ⟨c,hc,Sum.inr.inj e'⟩
  · intro hm
    obtain ⟨c,hc,rfl⟩:=List.mem_map.mp hm
    have:(Sum.inr c.1:Key)∈kvs.map (·.1):=by rw [k];exact List.mem_map.mpr ⟨c,hc,rfl⟩
    obtain ⟨kv,hk,e⟩:=List.mem_map.mp this
    exact ⟨kv,hk,decide_eq_true e⟩
theorem DcAt.snoc {CM CV CB:Addr}{H:Hp}{kvs:List (Key × V)}{cs:List Cl}{c:Cl}{y:Addr}(h:DcAt CM CV CB H kvs cs)(hc:ColC CM CV CB H c y):DcAt CM CV CB H (kvs++[(.inr c.1,.ref y)]) (cs++[c]):=by
  refine ⟨by rw [List.length_append,List.length_append,h.len];rfl,fun i kv c' e1 e2=>?_⟩
  by_cases z:i<kvs.length
  · rw [List.getElem?_append_left z] at e1
    rw [List.getElem?_append_left (by rw [← h.len];exact z)] at e2
    exact h.it i kv c' e1 e2
  · rw [List.getElem?_append_right (by omega)] at e1
    rw [List.getElem?_append_right (by rw [← h.len];omega),← h.len] at e2
    cases w:i-kvs.length with
    | zero =>
      rw [w] at e1 e2
      cases e1
      cases e2
      exact ⟨rfl,y,rfl,hc⟩
    | succ j =>
      rw [w] at e1
      cases e1
structure CoI (CM CV CB:Addr)(l d:Addr)(cs:List Cl)(H:Hp)(i:Nat)(σ:L2.St)(H':Hp):Prop where
  ex:∃ (kvs:List (Key × V)) (v2 v3 v4:Option V),σ=[some (.ref l),some (.ref d),v2,v3,v4]∧H' d=some (.dK kvs)∧DcAt CM CV CB (del H' d) kvs (cs.take i)
  go:goodL [] cs=goodL ((cs.take i).map (·.1)) (cs.drop i)
  sm:Same H H'
def spIsW:Sp:=fun vs H Q _=>∃ v,vs=[v]∧SzOk H v∧Q (.bl (isI v)) H
def spIsZ:Sp:=fun vs H Q _=>∃ (k:Str) (v:V),vs=[.str k,v]∧SzOk H v∧Q (.bl (sizeB k v)) H
section
variable {P:Program}{w:World}{K:PySem.W.Frag}{mg:Str→Option Value}{base:Heap}{CM CV CB CX:Addr}
theorem ok_is_whole (B:Blt mg)(d:DefAt K mg "is_whole" s_is_whole ["thing"]):FnAt P w K mg base "is_whole" ["thing"] 1 spIsW:=by
  refine FnAt.of d sc_is_whole (fun vs H Q E h=>?_) (fun f cdv A outer s H vs Q E hr h=>?_)
  · obtain ⟨k,rfl,_⟩:=h
    rfl
  obtain ⟨v,rfl,sv,q⟩:=h
  refine ⟨_,(pss_one (ps_ret (pe_and (pe_callB (call_isiK K) rfl B.isi boot_isi (pa_cons (pv 0) (pa_cons (pe_bltn (v:=.ty "int") rfl B.int boot_int rfl) pa_nil))) (pe_one (pe_not (pe_callB (call_isiK K) rfl B.isi boot_isi (pa_cons (pv 0) (pa_cons (pe_bltn (v:=.ty "bool") rfl B.bool boot_bool rfl) pa_nil)))))))),?_⟩
  cases v with
  | int z=>walk_at "vc";exact q
  | bl b=>walk_at "vc";exact q
  | non =>
    walk_at "vc"
    exact ⟨_,_,_,_,false,rfl,rfl,.non,rfl,_,rfl,q⟩
  | str z =>
    walk_at "vc"
    exact ⟨_,_,_,_,false,rfl,rfl,.str z,rfl,_,rfl,q⟩
  | ref p =>
    walk_at "vc"
    rcases sv with ⟨xs,e⟩ | ⟨xs,e⟩
    · exact isi_int_no (.tup e) rfl ⟨_,rfl,q⟩
    · exact isi_int_no (.lst e) rfl ⟨_,rfl,q⟩
  | _=>exact sv.elim
theorem ok_is_size (B:Blt mg) (h_is_whole:FnAt P w K mg base "is_whole" ["thing"] 1 spIsW) (d:DefAt K mg "is_size" s_is_size ["kind","size"]):FnAt P w K mg base "is_size" ["kind","size"] 2 spIsZ:=by
  refine FnAt.of d sc_is_size (fun vs H Q E h=>?_) (fun f cdv A outer s H vs Q E hr h=>?_)
  · obtain ⟨k,v,rfl,_⟩:=h
    rfl
  obtain ⟨k,v,rfl,sv,q⟩:=h
  refine ⟨_,(pss_cons (ps_if (pt_not (pt_val (pe_callF h_is_whole (hr.mono (by decide)) rfl (pa_cons (pv 1) pa_nil)))) (pss_one (ps_ret pe_bl)) pss_nil)
      (pss_one (ps_ret (pe_ifExp (pt_cmpR op_eq (pv 0) pe_str (nomark _)) (pe_chain op_le op_le pe_int (pv 1) pe_int) (pe_and (pe_cmpR op_eq (pv 0) pe_str (nomark _)) (pe_one (pe_chain op_le op_le pe_int (pv 1) pe_int))))))),?_⟩
  walk_at "vc"
  refine ⟨v,rfl,sv,_,rfl,?_⟩
  unfold sizeB at q
  cases v with
  | int i =>
    rw [if_neg (show ¬ isI (V.int i)=false from Bool.noConfusion)]
    dsimp only at q
    by_cases c1:k=Str.ofString "values"
    · rw [if_pos c1]
      rw [if_pos (show k=valuesS from c1)] at q
      refine ⟨i,rfl,?_⟩
      by_cases c2:0≤i
      · rw [if_pos c2]
        refine ⟨i,rfl,?_⟩
        rw [show decide (0≤i∧i≤999)=decide (i≤999) from decide_eq_decide.mpr ⟨fun z=>z.2,fun z=>⟨c2,z⟩⟩] at q
        exact q
      · rw [if_neg c2]
        rw [decide_eq_false (fun z=>c2 z.1)] at q
        exact q
    · rw [if_neg c1]
      rw [if_neg (show ¬ k=valuesS from c1)] at q
      by_cases c3:k=Str.ofString "bits"
      · rw [if_pos c3]
        rw [decide_eq_true (show k=bitsS from c3),Bool.true_and] at q
        refine ⟨i,rfl,?_⟩
        by_cases c2:1≤i
        · rw [if_pos c2]
          refine ⟨i,rfl,?_⟩
          rw [show decide (1≤i∧i≤40)=decide (i≤40) from decide_eq_decide.mpr ⟨fun z=>z.2,fun z=>⟨c2,z⟩⟩] at q
          exact q
        · rw [if_neg c2]
          rw [decide_eq_false (fun z=>c2 z.1)] at q
          exact q
      · rw [if_neg c3]
        rw [decide_eq_false (show ¬ k=bitsS from c3),Bool.false_and] at q
        exact q
  | _=>exact q
def spCols (CM CV CB CX:Addr)(K:PySem.W.Frag):Sp:=fun vs H Q E=>∃ (l:Addr) (us:List V) (cs:List Cl),vs=[.ref l]∧SqL K H l us∧CsAt H us cs∧us.length≤1000∧(colsOk cs=true→∀ d kvs H',Same H H'→H d=none→H' d=some (.dK kvs)→DcAt CM CV CB H' kvs cs→Q (.ref d) H')∧(colsOk cs=false→∀ H',Same H H'→E (.ref CX) none H')
theorem ok_columns_of (cM:∃ t,mg "MOST_COLUMNS"=some (.int 6 t)) (g_BadColumn:mg "BadColumn"=some (.ref CX)) (xc_BadColumn:XCls K CX) (B:Blt mg) (h_is_name:FnAt P w K mg base "is_name" ["word"] 2 spName) (h_is_size:FnAt P w K mg base "is_size" ["kind","size"] 2 spIsZ) (h_ByValue:MakeAt P w K mg base "ByValue" CV ["self","top"] 4 (spVI CM CV "greatest")) (h_ByBits:MakeAt P w K mg base "ByBits" CB ["self","width"] 4 (spVI CM CB "width")) (d:DefAt K mg "columns_of" s_columns_of ["told"]):FnR P w K mg base "columns_of" ["told"] 6 (spCols CM CV CB CX K):=by
  refine FnR.of d sc_columns_of (fun vs H Q E h=>?_) (fun f cdv A outer s H vs Q E hr h=>?_)
  · obtain ⟨l,us,cs,rfl,_⟩:=h
    rfl
  obtain ⟨l,us,cs,rfl,hl,hc,ul,q,x⟩:=h
  obtain ⟨t6,c_MOST_COLUMNS⟩:=cM
  refine ⟨_,(pss_cons (ps_if (pt_not (pt_chain op_le op_le pe_int (pe_callB (call_lenK K) rfl B.len PySem.boot_len (pa_cons (pv 0) pa_nil)) (pe_glob (v:=.int 6) rfl c_MOST_COLUMNS ⟨_,rfl⟩))) (pss_one (ps_raiseP xc_BadColumn g_BadColumn rfl pe_str)) pss_nil)
      (pss_cons (ps_set (i:=1) sc_columns_of.nd rfl (by walk_at "l") pe_dnewK)
      (pss_cons (ps_for ownD rfl (pi_listK K (pv 0)) (pg_tupK K rfl (pgs_cons (pg_name (i:=2) sc_columns_of.nd rfl (by walk_at "l")) (pgs_cons (pg_name (i:=3) sc_columns_of.nd rfl (by walk_at "l")) (pgs_cons (pg_name (i:=4) sc_columns_of.nd rfl (by walk_at "l")) pgs_nil)))) (pss_cons (ps_if (PW.pt (pw_or (pt_not (pt_val (pe_callF h_is_name (hr.mono (by decide)) rfl (pa_cons (pv 2) pa_nil)))) (pw_or1 (pt_cmp (pc_din (hu1 hr) (pv 2) (pv 1)) (by with_unfolding_all rfl))))) (pss_one (ps_raiseP xc_BadColumn g_BadColumn rfl pe_str)) pss_nil)
      (pss_cons (ps_if (pt_not (pt_val (pe_callF h_is_size (hr.mono (by decide)) rfl (pa_cons (pv 3) (pa_cons (pv 4) pa_nil))))) (pss_one (ps_raiseP xc_BadColumn g_BadColumn rfl pe_str)) pss_nil)
      (pss_one (ps_dput (hu1 hr) (pv 1) (pv 2) (pe_ifExp (pt_cmpR op_eq (pv 3) pe_str (nomark _)) (pe_makeF h_ByValue (hr.mono (by decide)) rfl (pa_cons (pv 4) pa_nil)) (pe_makeF h_ByBits (hr.mono (by decide)) rfl (pa_cons (pv 4) pa_nil))) rfl)))))
      (pss_one (ps_ret (pv 1)))))),?_⟩
  have cl:=hc.len
  refine seq_step fun k hk=>?_
  walk_at "vc"
  refine ⟨us,.inl hl,?_⟩
  by_cases c1:1≤us.length∧us.length≤6
  · rw [if_pos (by omega),if_pos (by omega)]
    have ok1:colsOk cs=goodL [] cs:=by
      unfold colsOk
      rw [decide_eq_true (by omega),Bool.true_and]
    rw [ok1] at q x
    refine hk _ _ (seq_step fun k hk=>?_)
    walk_at "vc"
    intro d nd
    refine hk _ _ (seq_step fun k hk=>?_)
    walk_at "vc"
    refine ⟨⟨_,(Same.new nd).seq hl⟩,loopL (xs:=us) (CoI CM CV CB l d cs H) ⟨⟨[],none,none,none,rfl,upd_same,rfl,fun i kv c e=>by cases e⟩,rfl,Same.new nd⟩ (fun i σ H' _ h=>h.sm.seq hl) ?_ ?_⟩
    · rintro i u σ H1 hu ⟨⟨kvs,v2,v3,v4,rfl,hd,dc⟩,go,sm⟩
      have il:i<us.length:=(List.getElem?_eq_some_iff.mp hu).1
      obtain ⟨c,ec⟩:∃ c,cs[i]?=some c:=⟨_,List.getElem?_eq_getElem (by omega)⟩
      obtain ⟨a,rfl,ha,sz,nl⟩:=(hc.same sm).it i u c hu ec
      have dr:cs.drop i=c::cs.drop (i+1):=by
        have il':i<cs.length:=by omega
        rw [List.drop_eq_getElem_cons il']
        rw [List.getElem?_eq_getElem il'] at ec
        cases ec
        rfl
      rw [dr] at go
      have go:_=(nameB c.1&&!decide (c.1∈(cs.take i).map (·.1))&&sizeB c.2.1 c.2.2&&goodL ((cs.take i).map (·.1)++[c.1]) (cs.drop (i+1))):=go
      walk_at "vc"
      refine ⟨_,.inl (.inl ha),rfl,_,_,rfl,_,_,rfl,_,_,rfl,rfl,c.1,rfl,by omega,fun H2 s2=>⟨_,rfl,?_⟩⟩
      have s12:=sm.trans s2
      by_cases n1:nameB c.1=true
      · rw [if_neg (by rw [n1];exact Bool.noConfusion)]
        refine ⟨valV kvs (.inr c.1),.inl ⟨kvs,.inr _,.inl (s2 _ _ hd),rfl,rfl⟩,?_⟩
        have hs:=dc.has c.1
        by_cases n2:c.1∈(cs.take i).map (·.1)
        · rw [if_pos (by rw [hs];exact decide_eq_true n2)]
          exact x (by rw [go,decide_eq_true n2,Bool.not_true,Bool.and_false];rfl) H2 s12
        · rw [if_neg (by rw [hs,decide_eq_false n2];exact Bool.noConfusion)]
          refine ⟨c.2.1,c.2.2,rfl,sz.same s2,_,rfl,?_⟩
          by_cases n3:sizeB c.2.1 c.2.2=true
          · rw [if_neg (by rw [n3];exact Bool.noConfusion)]
            have tk:cs.take (i+1)=cs.take i++[c]:=by
              rw [List.take_add_one,ec]
              rfl
            have stor:∀ y H3,Same H2 H3→ColC CM CV CB (del H3 d) c y→CoI CM CV CB l d cs H (i+1) [some (.ref l),some (.ref d),some (.str c.1),some (.str c.2.1),some c.2.2] (upd H3 d (.dK (putK kvs (.inr c.1) (.ref y)))):=fun y H3 s3 cy=>by
              have pk:putK kvs (Sum.inr c.1:Key) (.ref y)=kvs++[(.inr c.1,.ref y)]:=by
                unfold putK
                rw [if_neg]
                rw [valV_any,hs,decide_eq_false n2]
                exact Bool.noConfusion
              refine ⟨⟨_,_,_,_,rfl,upd_same,?_⟩,?_,(s12.trans s3).put nd⟩
              · rw [del_upd,pk,tk]
                exact (dc.same (Same.del (s2.trans s3))).snoc cy
              · rw [tk,List.map_append,go,n1,n3,decide_eq_false n2]
                rfl
            have kl:kvs.length<sizeLine:=by
              rw [dc.len,List.length_take,sizeLine_eq]
              omega
            have hd2:=s2 _ _ hd
            walk_at "vc"
            split
            · rename_i z
              intro y dy ny ndy hne
              have hd3:upd (upd H2 dy (.own y)) y (.ins CV dy []) d=some (.dK kvs):=by
                rw [upd_ne (ne_of_none hd2 ny),upd_ne (ne_of_none hd2 ndy)]
                exact hd2
              refine ⟨y,dy,c.2.2,rfl,upd_same,fun H3 f3 _ off=>⟨rfl,_,DPut.k (k:=.inr c.1) (f3 _ _ (ne_of_none hd2 ny) hd3) kl,stor y H3 (mk_same ny ndy f3) ?_⟩⟩
              unfold ColC
              rw [if_pos (show c.2.1=valuesS from z)]
              exact off d kvs hd3
            · rename_i z
              intro y dy ny ndy hne
              have hd3:upd (upd H2 dy (.own y)) y (.ins CB dy []) d=some (.dK kvs):=by
                rw [upd_ne (ne_of_none hd2 ny),upd_ne (ne_of_none hd2 ndy)]
                exact hd2
              refine ⟨y,dy,c.2.2,rfl,upd_same,fun H3 f3 _ off=>⟨rfl,_,DPut.k (k:=.inr c.1) (f3 _ _ (ne_of_none hd2 ny) hd3) kl,stor y H3 (mk_same ny ndy f3) ?_⟩⟩
              unfold ColC
              rw [if_neg (show ¬ c.2.1=valuesS from z)]
              exact off d kvs hd3
          · rw [if_pos (Bool.eq_false_iff.mpr n3)]
            exact x (by rw [go,Bool.eq_false_iff.mpr n3,Bool.and_false];rfl) H2 s12
      · rw [if_pos (Bool.eq_false_iff.mpr n1)]
        exact x (by rw [go,Bool.eq_false_iff.mpr n1];rfl) H2 s12
    · rintro σ H1 ⟨⟨kvs,v2,v3,v4,rfl,hd,dc⟩,go,sm⟩
      refine hk _ _ ?_
      walk_at "vc"
      rw [cl,List.take_length] at dc go
      rw [List.drop_length] at go
      exact q go d kvs H1 sm nd hd (dc.same sub_del)
  · have no:colsOk cs=false:=by
      unfold colsOk
      rw [decide_eq_false (by omega),Bool.false_and]
    split
    · split
      · omega
      · exact x no H (Same.refl _)
    · exact x no H (Same.refl _)
end
def TabAt (CM CV CB CT:Addr)(H:Hp)(x:Addr)(cs:List Cl):Prop:=∃ dx d kvs m,H x=some (.ins CT dx [("columns",.ref d),("present",.ref m)])∧H d=some (.dK kvs)∧DcAt CM CV CB H kvs cs∧MkE CM H m
theorem TabAt.same {CM CV CB CT:Addr}{H H':Hp}{x:Addr}{cs:List Cl}(s:Same H H')(h:TabAt CM CV CB CT H x cs):TabAt CM CV CB CT H' x cs:=by
  obtain ⟨dx,d,kvs,m,h1,h2,h3,h4⟩:=h
  exact ⟨dx,d,kvs,m,s _ _ h1,s _ _ h2,h3.same s,h4.same s⟩
def spTI (CM CV CB CX CT:Addr)(K:PySem.W.Frag):Sp:=fun vs H Q E=>∃ (x dx l:Addr) (us:List V) (cs:List Cl),vs=[.ref x,.ref l]∧H x=some (.ins CT dx [])∧SqL K H l us∧CsAt H us cs∧us.length≤1000∧(colsOk cs=true→∀ H',Fx x H H'→TabAt CM CV CB CT H' x cs→Q .non H')∧(colsOk cs=false→∀ H',Same H H'→E (.ref CX) none H')
theorem ColE.fx {CM C x C' dx':Addr}{f:Str}{v:V}{H H':Hp}{y:Addr}(hx:H x=some (.ins C' dx' []))(s:Fx x H H')(h:ColE CM C f v H y):ColE CM C f v H' y:=by
  obtain ⟨dx,m,d1,d2,h1,h2,h3,h4⟩:=h
  have mx:m≠x:=fun z=>by
    obtain ⟨_,_,_,_,g,_⟩:=h2
    rw [z,hx] at g
    cases g
  exact ⟨dx,m,d1,d2,s _ _ (fun z=>by rw [z,hx] at h1;cases h1) h1,h2.fx mx hx s,s _ _ (fun z=>by rw [z,hx] at h3;cases h3) h3,s _ _ (fun z=>by rw [z,hx] at h4;cases h4) h4⟩
theorem DcAt.fx {CM CV CB x C' dx':Addr}{H H':Hp}{kvs:List (Key × V)}{cs:List Cl}(hx:H x=some (.ins C' dx' []))(s:Fx x H H')(h:DcAt CM CV CB H kvs cs):DcAt CM CV CB H' kvs cs:=⟨h.len,fun i kv c e1 e2=>by
  obtain ⟨a,y,b,z⟩:=h.it i kv c e1 e2
  refine ⟨a,y,b,?_⟩
  unfold ColC at *
  split at z
  · rename_i w
    rw [if_pos w]
    exact z.fx hx s
  · rename_i w
    rw [if_neg w]
    exact z.fx hx s⟩
theorem loopD {a:Addr}{o:Obj}{kvs:List (Key × V)}{g:TG}{tb:TS}{D:Ends}{σ:L2.St}{H:Hp}(Pv:Nat→L2.St→Hp→Prop)(h0:Pv 0 σ H)(hf:∀ i σ H,Pv i σ H→H a=some (.frz o (.dK kvs)))(hs:∀ i kv σ H,kvs[i]?=some kv→Pv i σ H→g (kV kv.1) σ H fun σ2 H2=>tb { D with nx:=Pv (i+1),ct:=Pv (i+1),bk:=D.nx } σ2 H2)(hd:∀ σ H,Pv kvs.length σ H→D.nx σ H):LoopJ (Itd a o kvs) g tb D σ H:=by
  refine ⟨fun i m σ H=>i≤kvs.length∧m=kvs.length-i∧Pv i σ H,⟨_,Nat.zero_le _,rfl,h0⟩,fun i m σ H h=>?_⟩
  obtain ⟨il,rfl,p⟩:=h
  by_cases c:i<kvs.length
  · refine .inr ⟨⟨hf i σ H p,c⟩,Pv (i+1),fun σ' H' p'=>⟨kvs.length-(i+1),by omega,c,rfl,p'⟩,?_⟩
    rintro x H' ⟨rfl,kv,e,rfl⟩
    exact hs i kv σ _ e p
  · have e:i=kvs.length:=by omega
    subst e
    exact .inl ⟨⟨hf _ σ H p,Nat.le_refl _⟩,hd σ H p⟩
theorem DcAt.get {CM CV CB:Addr}{H:Hp}{kvs:List (Key × V)}{cs:List Cl}{x:Str}(h:DcAt CM CV CB H kvs cs)(hx:x∈cs.map (·.1)):∃ c y,valV kvs (.inr x)=some (.ref y)∧c∈cs∧c.1=x∧ColC CM CV CB H c y:=by
  have hs:=h.has x
  rw [decide_eq_true hx] at hs
  obtain ⟨v,ev⟩:=Option.isSome_iff_exists.mp hs
  have ev':=ev
  unfold valV at ev'
  obtain ⟨kv,ek,rfl⟩:=Option.map_eq_some_iff.mp ev'
  have hm:=List.mem_of_find?_eq_some ek
  have hk:kv.1=Sum.inr x:=of_decide_eq_true (List.find?_some (p:=fun kv:Key × V=>decide (kv.1=Sum.inr x)) ek)
  obtain ⟨i,hi⟩:=List.mem_iff_getElem?.mp hm
  have il:i<cs.length:=by rw [← h.len];exact (List.getElem?_eq_some_iff.mp hi).1
  obtain ⟨a,y,b,z⟩:=h.it i kv _ hi (List.getElem?_eq_getElem il)
  refine ⟨cs[i],y,by rw [ev,b],List.getElem_mem il,?_,z⟩
  rw [hk] at a
  exact (Sum.inr.inj a).symm
theorem ColC.keep2 {CM CV CB d p:Addr}{H H':Hp}{c:Cl}{y:Addr}{kvs:List (Key × V)}{u:V}(hd:H d=some (.dK kvs))(hn:kvs≠[])(hp:H p=some (.lst [u]))(s:∀ b ob,b≠d→b≠p→H b=some ob→H' b=some ob)(h:ColC CM CV CB H c y):ColC CM CV CB H' c y:=by
  have k:∀ {C:Addr} {f:Str} {v:V},ColE CM C f v H y→ColE CM C f v H' y:=fun {C f v} ⟨dx,m,d1,d2,h1,h2,h3,h4⟩=>by
    have k1:∀ {a:Addr} {o:HO},H a=some o→o≠.dK kvs→o≠.lst [u]→H' a=some o:=fun {a o} e no np=>s a o (fun z=>by rw [z,hd] at e;exact no (Option.some.inj e).symm) (fun z=>by rw [z,hp] at e;exact np (Option.some.inj e).symm) e
    have kd:∀ {a:Addr},H a=some (.dK [])→H' a=some (.dK []):=fun e=>k1 e (fun z=>hn (by injection z with z;exact z.symm)) (fun z=>by cases z)
    have kl:∀ {a:Addr},H a=some (.lst [])→H' a=some (.lst []):=fun e=>k1 e (fun z=>by cases z) (fun z=>by cases z)
    obtain ⟨dx',a,b,c,g1,g2,g3,g4⟩:=h2
    exact ⟨dx,m,d1,d2,k1 h1 (fun z=>by cases z) (fun z=>by cases z),⟨dx',a,b,c,k1 g1 (fun z=>by cases z) (fun z=>by cases z),kl g2,kl g3,kl g4⟩,kd h3,kd h4⟩
  unfold ColC at *
  split at h
  · rename_i z
    rw [if_pos z]
    exact k h
  · rename_i z
    rw [if_neg z]
    exact k h
structure ToI (x d p2 p1 p0:Addr)(o:Obj)(kvs:List (Key × V))(H:Hp)(_i:Nat)(σ:L2.St)(H':Hp):Prop where
  ex:∃ v2,σ=[some (.ref x),some (.ref p2),v2]
  fz:H' d=some (.frz o (.dK kvs))
  h2:H' p2=some (.lst [.ref p1])
  fx:∀ b ob,b≠d→b≠p2→H b=some ob→H' b=some ob
section
variable {P:Program}{w:World}{K:PySem.W.Frag}{mg:Str→Option Value}{base:Heap}{CM CV CB CX CT CD:Addr}
theorem ok_TI (h_Marks:MakeAt P w K mg base "Marks" CM ["self"] 1 (spMI CM))(h_columns_of:FnR P w K mg base "columns_of" ["told"] 6 (spCols CM CV CB CX K))(cd:CD_Table K mg CT):MakeR P w K mg base "Table" CT ["self","columns"] 7 (spTI CM CV CB CX CT K):=by
  refine MakeR.of cd.at_ cd.init sc_Table___init__ (fun vs H Q E h=>?_) (fun f cdv A outer s H vs Q E hr h=>?_)
  · obtain ⟨x,dx,l,us,cs,rfl,_⟩:=h
    rfl
  obtain ⟨x,dx,l,us,cs,rfl,hx,hl,hc,ul,q,e⟩:=h
  refine ⟨_,(pss_cons (ps_fldK K (pv 0) (pe_callR h_columns_of (hr.mono (by decide)) rfl (pa_cons (pv 1) pa_nil)))
      (pss_one (ps_fldK K (pv 0) (pe_makeF0 h_Marks (hr.mono (by decide)) rfl)))),?_⟩
  refine seq_step fun k hk=>?_
  walk_at "vc"
  refine ⟨l,us,cs,rfl,hl,hc,ul,fun ok d kvs H1 s1 nd hd dc=>?_,fun no H1 s1=>e no H1 s1⟩
  have hx1:=s1 _ _ hx
  have dx':d≠x:=fun z=>by rw [z,hx] at nd;cases nd
  refine ⟨_,_,_,hx1,cd.c,cd.n_columns,by decide,hk _ _ ?_⟩
  walk_at "vc"
  refine fun m dm nm ndm hne=>⟨m,dm,rfl,upd_same,fun H3 f3 me=>⟨rfl,?_⟩⟩
  have s3:=mk_same nm ndm f3
  have hx3:=s3 _ _ upd_same
  have mx:m≠x:=fun z=>by rw [z,upd_same] at nm;cases nm
  refine ⟨_,_,_,hx3,cd.c,cd.n_present,by show 1<1000;decide,?_⟩
  have g1:Fx x H1 (upd H1 x (.ins CT dx (putF "columns" (.ref d) []))):=(Fx.of (Same.refl _)).put
  have g3:=(g1.trans (Fx.of s3)).put (o:=.ins CT dx (putF "present" (.ref m) (putF "columns" (.ref d) [])))
  exact q ok _ ((Fx.of s1).trans g3) ⟨dx,d,kvs,m,upd_same,g3 _ _ dx' hd,dc.fx hx1 g3,me.fx mx hx3 (Fx.of (Same.refl _)).put⟩
def spDI (CX CD:Addr)(K:PySem.W.Frag):Sp:=fun vs H Q E=>∃ (x dx l:Addr) (us:List V) (cs:List Cl),vs=[.ref x,.ref l]∧H x=some (.ins CD dx [])∧SqL K H l us∧CsAt H us cs∧us.length≤1000∧colsOk cs=false∧∀ H',Same H H'→E (.ref CX) none H'
theorem ok_DI (h_Table:MakeR P w K mg base "Table" CT ["self","columns"] 7 (spTI CM CV CB CX CT K))(cd:CD_Desk K mg CD):MakeR P w K mg base "Desk" CD ["self","columns"] 9 (spDI CX CD K):=by
  refine MakeR.of cd.at_ cd.init sc_Desk___init__ (fun vs H Q E h=>?_) (fun f cdv A outer s H vs Q E hr h=>?_)
  · obtain ⟨x,dx,l,us,cs,rfl,_⟩:=h
    rfl
  obtain ⟨x,dx,l,us,cs,rfl,hx,hl,hc,ul,no,e⟩:=h
  refine ⟨_,(pss_one (ps_fldK K (pv 0) (pe_makeR h_Table (hr.mono (by decide)) rfl (pa_cons (pv 1) pa_nil)))),?_⟩
  walk_at "vc"
  refine fun y dy ny ndy hne=>?_
  have s2:Same H (upd (upd H dy (.own y)) y (.ins CT dy [])):=(Same.new ndy).trans (Same.new (by rw [upd_ne (Ne.symm hne)];exact ny))
  exact ⟨y,dy,l,us,cs,rfl,upd_same,s2.seq hl,hc.same s2,ul,fun ok=>(by rw [no] at ok;cases ok),fun _ H' s'=>e H' (s2.trans s')⟩
def spTNames (CM CV CB CT:Addr):Sp:=fun vs H Q _=>∃ (x:Addr) (cs:List Cl),vs=[.ref x]∧TabAt CM CV CB CT H x cs∧∀ p H',Same H H'→H p=none→H' p=some (.lst (cs.map fun c=>V.str c.1))→Q (.ref p) H'
theorem ok_TNames (B:Blt mg)(cd:CD_Table K mg CT):MethAt P w K mg base CT "names" ["self"] 1 (spTNames CM CV CB CT):=by
  refine MethAt.of cd.c cd.m_names sc_Table_names (fun vs H Q E h=>?_) (fun f cdv A outer s H vs Q E hr h=>?_)
  · obtain ⟨x,cs,rfl,_⟩:=h
    rfl
  obtain ⟨x,cs,rfl,⟨dx,d,kvs,m,hx,hd,dc,me⟩,q⟩:=h
  refine ⟨_,(pss_one (ps_ret (pe_callTy call_listD rfl B.lst boot_list (pa_cons (pe_fldK K (pv 0)) pa_nil)))),?_⟩
  walk_at "vc"
  refine ⟨_,_,_,hx,cd.c,cd.n_columns,_,rfl,_,rfl,_,hd,fun p np=>q p _ (Same.new np) np ?_⟩
  rw [upd_same]
  have k:=congrArg (List.map kV) dc.keys
  rw [List.map_map,List.map_map] at k
  exact congrArg (fun z=>some (HO.lst z)) k
def spTRows (CM CV CB CT:Addr):Sp:=fun vs H Q _=>∃ (x:Addr) (cs:List Cl),vs=[.ref x]∧TabAt CM CV CB CT H x cs∧∀ p H',Same H H'→MkE CM H' p→Q (.ref p) H'
theorem ok_TRows (h_cp:MethAt P w K mg base CM "copied" ["self"] 3 (spMCop CM))(cd:CD_Table K mg CT):MethAt P w K mg base CT "rows" ["self"] 4 (spTRows CM CV CB CT):=by
  refine MethAt.of cd.c cd.m_rows sc_Table_rows (fun vs H Q E h=>?_) (fun f cdv A outer s H vs Q E hr h=>?_)
  · obtain ⟨x,cs,rfl,_⟩:=h
    rfl
  obtain ⟨x,cs,rfl,⟨dx,d,kvs,m,hx,hd,dc,me⟩,q⟩:=h
  refine ⟨_,(pss_one (ps_ret (pe_meD0 (P:=P) (w:=w) (K:=K) (mg:=mg) (base:=base) 3 (hr.mono (by decide)) (pe_fldK K (pv 0))))),?_⟩
  obtain ⟨dm,a,b,c,hm,_⟩:=id me
  walk_at "vc"
  exact ⟨_,_,_,hx,cd.c,cd.n_present,_,rfl,_,rfl,_,_,_,hm,rfl,_,_,h_cp,m,rfl,me,fun p H' s' _ me'=>q p H' s' me'⟩
def spTTold (CM CV CB CT:Addr):Sp:=fun vs H Q _=>∃ (x:Addr) (cs:List Cl),vs=[.ref x]∧TabAt CM CV CB CT H x cs∧∀ p a p0 H',Same H H'→H' p=some (.lst [.ref a])→H' a=some (.tup [.str (Str.ofString ""),.int 0,.ref p0])→H' p0=some (.lst [])→Q (.ref p) H'
theorem ok_TTold (h_to:MethAt P w K mg base CM "told" ["self"] 7 (spMTold CM)) (h_sV:MethAt P w K mg base CV "sets" ["self"] 8 (spSets CM CV "greatest")) (h_sB:MethAt P w K mg base CB "sets" ["self"] 8 (spSets CM CB "width")) (cd:CD_Table K mg CT):MethAt P w K mg base CT "told" ["self"] 9 (spTTold CM CV CB CT):=by
  refine MethAt.of cd.c cd.m_told sc_Table_told (fun vs H Q E h=>?_) (fun f cdv A outer s H vs Q E hr h=>?_)
  · obtain ⟨x,cs,rfl,_⟩:=h
    rfl
  obtain ⟨x,cs,rfl,⟨dx,d,kvs,m,hx,hd,dc,me⟩,q⟩:=h
  refine ⟨_,(pss_cons (ps_set (i:=1) sc_Table_told.nd rfl (by walk_at "l") (pe_lst (pa_cons (pe_tup (pa_cons pe_str (pa_cons pe_int (pa_cons (pe_meD0 (P:=P) (w:=w) (K:=K) (mg:=mg) (base:=base) 7 (hr.mono (by decide)) (pe_fldK K (pv 0))) pa_nil)))) pa_nil)))
      (pss_cons (ps_thaw (ps_for PassesOwn.never rfl (pi_dict (pe_fldK K (pv 0))) (pg_name (i:=2) sc_Table_told.nd rfl (by walk_at "l")) (pss_one (ps_expr (pe_bmK K PySem.F.plainAttrs_list PySem.F.slot_list_extend PySem.F.type_list_extend mt_extend (pv 1) (pa_cons (pe_comp ["number","rows"] [2] rfl (pi_listK K (pe_meD0 (P:=P) (w:=w) (K:=K) (mg:=mg) (base:=base) 8 (hr.mono (by decide)) (pe_dget (hu1 hr) (pe_fldK K (pv 0)) (pv 2) (fun _ _=>rfl)))) (fun _ _ _ _ _=>pg_tupK (n:=2) K rfl (pgs_cons (pg_name (i:=0) (by show List.Nodup (["number","rows","name"]:List Str);decide +kernel) rfl (Or.inl rfl)) (pgs_cons (pg_name (i:=1) (by show List.Nodup (["number","rows","name"]:List Str);decide +kernel) rfl (Or.inl rfl)) pgs_nil))) (fun _ _ _ _ _=>pts_nil) (fun _ _ _ _ _=>(pe_tup (pa_cons (pv 2) (pa_cons (pv 0) (pa_cons (pv 1) pa_nil))))) ⟨⟨_,rfl,rfl,.inl rfl⟩,trivial⟩ gOwn_pair) pa_nil))))))
      (pss_one (ps_ret (pv 1))))),?_⟩
  obtain ⟨dm,a,b,c,hm,_⟩:=id me
  refine seq_step fun k hk=>?_
  walk_at "vc"
  refine ⟨_,_,_,hx,cd.c,cd.n_present,_,rfl,_,rfl,_,_,_,hm,rfl,_,_,h_to,m,rfl,me,fun p0 H1 s1 n0 h0=>⟨by decide,fun p1 n1=>⟨by decide,fun p2 n2=>hk _ _ (seq_step fun k hk=>?_)⟩⟩⟩
  have t1:=Same.new (o:=.tup [V.str (Str.ofString ""),V.int 0,V.ref p0]) n1
  have t2:=Same.new (o:=.lst [V.ref p1]) n2
  have s2:=s1.trans (t1.trans t2)
  have p2d:p2≠d:=Ne.symm (ne_of_none (t1 _ _ (s1 _ _ hd)) n2)
  have hx2:=s2 _ _ hx
  have hd2:=s2 _ _ hd
  have dc2:=dc.same s2
  have l2:=upd_same (H:=upd H1 p1 (.tup [V.str (Str.ofString ""),V.int 0,V.ref p0])) (a:=p2) (o:=.lst [V.ref p1])
  have a2:=t2 _ _ (upd_same (H:=H1) (a:=p1) (o:=.tup [V.str (Str.ofString ""),V.int 0,V.ref p0]))
  have b2:=t2 _ _ (t1 _ _ h0)
  have np2:H p2=none:=none_of (s1.trans t1) n2
  generalize upd (upd H1 p1 (.tup [V.str (Str.ofString ""),V.int 0,V.ref p0])) p2 (.lst [V.ref p1])=H2 at s2 hx2 hd2 dc2 l2 a2 b2
  walk_at "vc"
  refine ⟨d,kvs,hd2,_,_,_,hx2,cd.c,cd.n_columns,_,rfl,_,rfl,_,hd2,fun o=>?_⟩
  have xd:x≠d:=fun z=>by rw [z,hd] at hx;cases hx
  have xp:x≠p2:=ne_of_none hx np2
  refine loopD (ToI x d p2 p1 p0 o kvs H2) ⟨⟨_,rfl⟩,upd_same,by rw [upd_ne p2d];exact l2,fun b ob nb _ e=>by rw [upd_ne nb];exact e⟩ (fun i σ H' h=>h.fz) ?_ ?_
  · rintro i kv σ H3 ekv ⟨⟨v2,rfl⟩,fz,hp2,fx⟩
    have il:i<cs.length:=by rw [← dc2.len];exact (List.getElem?_eq_some_iff.mp ekv).1
    obtain ⟨ek,y,ey,cy⟩:=dc2.it i kv _ ekv (List.getElem?_eq_getElem il)
    have kn:kvs≠[]:=fun z=>by rw [z] at ekv;cases ekv
    obtain ⟨c',y',ev,hm',en,cy'⟩:=dc2.get (x:=cs[i].1) (List.mem_map.mpr ⟨cs[i],List.getElem_mem il,rfl⟩)
    have cy3:=cy'.keep2 hd2 kn l2 fx
    rw [ek]
    have fin:∀ pa H4,Same H3 H4→H4 pa=some (.lst [])→CompJ (Itl K pa) 2 [2] (gTup K 2 (gCons (gName 0) (gCons (gName 1) gNil))) tNoTest (tTup (tCons (tVar 2) (tCons (tVar 0) (tCons (tVar 1) tNil)))) [some (V.ref x),some (V.ref p2),some (kV (.inr cs[i].1))] H4 fun x_12 H1=>∃ x_13,x_12=V.ref x_13∧∃ x_14,H1 p2=some (HO.lst x_14)∧∃ x_15,H1 x_13=some (HO.lst x_15)∧x_14.length+x_15.length≤sizeLine∧ToI x d p2 p1 p0 o kvs H2 (i+1) [some (V.ref x),some (V.ref p2),some (kV (.inr cs[i].1))] (upd H1 p2 (HO.lst (x_14++x_15))):=fun pa H4 s4 hpa=>by
      refine comp0 (fun D hD=>⟨[],SqL.of ((Same.new hD) _ _ hpa),Nat.le_refl _⟩) fun D hD=>?_
      have s5:=s4.trans (Same.new (o:=.lst []) hD)
      refine ⟨D,rfl,_,s5 _ _ hp2,_,upd_same,(by show 1+0≤sizeLine;decide),⟨_,rfl⟩,?_,?_,fun b ob n1 n2 e=>?_⟩
      · rw [upd_ne (Ne.symm p2d)]
        exact s5 _ _ fz
      · rw [upd_same]
        rfl
      · rw [upd_ne n2]
        exact s5 _ _ (fx _ _ n1 n2 e)
    walk_at "vc"
    unfold ColC at cy3
    split at cy3
    · obtain ⟨dy,m',d1,d2,hy,_⟩:=id cy3
      exact ⟨⟨_,SqL.of hp2⟩,_,_,_,fx _ _ xd xp hx2,cd.c,cd.n_columns,_,rfl,_,rfl,_,.inl ⟨kvs,.inr _,.inr ⟨o,fz⟩,rfl,ev.symm⟩,_,rfl,_,_,_,hy,rfl,_,_,h_sV,y',_,rfl,cy3,fun pa H4 s4 npa hpa=>⟨pa,rfl,⟨_,SqL.of hpa⟩,fin pa H4 s4 hpa⟩⟩
    · obtain ⟨dy,m',d1,d2,hy,_⟩:=id cy3
      exact ⟨⟨_,SqL.of hp2⟩,_,_,_,fx _ _ xd xp hx2,cd.c,cd.n_columns,_,rfl,_,rfl,_,.inl ⟨kvs,.inr _,.inr ⟨o,fz⟩,rfl,ev.symm⟩,_,rfl,_,_,_,hy,rfl,_,_,h_sB,y',_,rfl,cy3,fun pa H4 s4 npa hpa=>⟨pa,rfl,⟨_,SqL.of hpa⟩,fin pa H4 s4 hpa⟩⟩
  · rintro σ H3 ⟨⟨v2,rfl⟩,fz,hp2,fx⟩
    refine ⟨o,fz,hk _ _ ?_⟩
    have s4:∀ b ob,b≠p2→H2 b=some ob→upd H3 d (.dK kvs) b=some ob:=fun b ob n2 e=>by
      by_cases z:b=d
      · rw [z,upd_same]
        rw [z,hd2] at e
        exact e
      · rw [upd_ne z]
        exact fx _ _ z n2 e
    have p1p:p1≠p2:=ne_of_none upd_same n2
    have p0p:p0≠p2:=ne_of_none (t1 _ _ h0) n2
    walk_at "vc"
    refine q p2 p1 p0 _ (fun b ob e=>s4 _ _ (ne_of_none e np2) (s2 _ _ e)) ?_ (s4 _ _ p1p a2) (s4 _ _ p0p b2)
    rw [upd_ne p2d]
    exact hp2
end
def spChk:Sp:=fun vs H Q _=>∃ (n:Str) (d:Addr) (kvs:List (Key × V)),vs=[.str n,.ref d]∧H d=some (.dK kvs)∧(valV kvs (.inr n)).isSome=true∧Q .non H
def spColOf (CM CV CB CT:Addr):Sp:=fun vs H Q _=>∃ (x:Addr) (cs:List Cl) (n:Str) (c:Cl),vs=[.ref x,.str n]∧TabAt CM CV CB CT H x cs∧c∈cs∧c.1=n∧(∀ c'∈cs,c'.1=n→c'=c)∧∀ y H',Same H H'→ColC CM CV CB H' c y→Q (.ref y) H'
section
variable {P:Program}{w:World}{K:PySem.W.Frag}{mg:Str→Option Value}{base:Heap}{CM CV CB CX CT CD:Addr}
theorem ok_check_name (d:DefAt K mg "check_name" s_check_name ["name","columns"]):FnAt P w K mg base "check_name" ["name","columns"] 1 spChk:=by
  refine FnAt.of d sc_check_name (fun vs H Q E h=>?_) (fun f cdv A outer s H vs Q E hr h=>?_)
  · obtain ⟨n,d,kvs,rfl,_⟩:=h
    rfl
  obtain ⟨n,d,kvs,rfl,hd,hv,q⟩:=h
  refine ⟨_,(pss_one (ps_if (pt_cmp (pc_dnotin (hu1 hr) (pv 0) (pv 1)) (by with_unfolding_all rfl)) (pss_one (ps_never)) pss_nil)),?_⟩
  walk_at "vc"
  refine ⟨_,.inl ⟨kvs,.inr n,.inl hd,rfl,rfl⟩,?_⟩
  rw [if_neg (by rw [hv];exact Bool.noConfusion)]
  exact q
theorem ok_column_of (h_check_name:FnAt P w K mg base "check_name" ["name","columns"] 1 spChk)(h_cV:MethAt P w K mg base CV "copied" ["self"] 8 (spFresh CM CV "greatest"))(h_cB:MethAt P w K mg base CB "copied" ["self"] 8 (spFresh CM CB "width"))(cd:CD_Table K mg CT):MethAt P w K mg base CT "column_of" ["self","name"] 9 (spColOf CM CV CB CT):=by
  refine MethAt.of cd.c cd.m_column_of sc_Table_column_of (fun vs H Q E h=>?_) (fun f cdv A outer s H vs Q E hr h=>?_)
  · obtain ⟨x,cs,n,c,rfl,_⟩:=h
    rfl
  obtain ⟨x,cs,n,c,rfl,⟨dx,d,kvs,m,hx,hd,dc,me⟩,hc,en,un,q⟩:=h
  refine ⟨_,(pss_cons (ps_expr (pe_callF h_check_name (hr.mono (by decide)) rfl (pa_cons (pv 1) (pa_cons (pe_fldK K (pv 0)) pa_nil))))
      (pss_one (ps_ret (pe_meD0 (P:=P) (w:=w) (K:=K) (mg:=mg) (base:=base) 8 (hr.mono (by decide)) (pe_dget (hu1 hr) (pe_fldK K (pv 0)) (pv 1) (fun _ _=>rfl)))))),?_⟩
  obtain ⟨c',y,ev,hm,en',cy⟩:=dc.get (x:=n) (List.mem_map.mpr ⟨c,hc,en⟩)
  obtain rfl:=un c' hm en'
  walk_at "vc"
  refine ⟨_,_,_,hx,cd.c,cd.n_columns,_,rfl,n,d,kvs,rfl,hd,by rw [ev];rfl,_,_,_,hx,cd.c,cd.n_columns,_,rfl,_,rfl,_,.inl ⟨kvs,.inr n,.inl hd,rfl,ev.symm⟩,_,rfl,?_⟩
  unfold ColC at cy
  split at cy
  · rename_i z
    obtain ⟨dy,m',d1,d2,hy,_⟩:=id cy
    exact ⟨_,_,_,hy,rfl,_,_,h_cV,y,_,rfl,cy,fun p H' s' _ c2=>q p H' s' (by unfold ColC;rw [if_pos z];exact c2)⟩
  · rename_i z
    obtain ⟨dy,m',d1,d2,hy,_⟩:=id cy
    exact ⟨_,_,_,hy,rfl,_,_,h_cB,y,_,rfl,cy,fun p H' s' _ c2=>q p H' s' (by unfold ColC;rw [if_neg z];exact c2)⟩
end
theorem eqV_str {a b:Str}:(eqV (.str a) (.str b)=true)↔a=b:=by
  show (a==b)=true↔_
  exact beq_iff_eq
theorem ws8_x:∀ w:Str,inV (.str w) ws8=true→nameB (w++Str.ofString "x")=true:=fun w h=>by
  have:w=Str.ofString "and"∨w=Str.ofString "or"∨w=Str.ofString "not"∨w=Str.ofString "all"∨w=Str.ofString "none"∨w=Str.ofString "is"∨w=Str.ofString "from"∨w=Str.ofString "to":=by
    have h:(eqV (.str (Str.ofString "and")) (.str w)||(eqV (.str (Str.ofString "or")) (.str w)||(eqV (.str (Str.ofString "not")) (.str w)||(eqV (.str (Str.ofString "all")) (.str w)||(eqV (.str (Str.ofString "none")) (.str w)||(eqV (.str (Str.ofString "is")) (.str w)||(eqV (.str (Str.ofString "from")) (.str w)||(eqV (.str (Str.ofString "to")) (.str w)||false))))))))=true:=h
    simp only [Bool.or_eq_true,eqV_str,Bool.or_false,eq_comm (b:=w)] at h
    exact h
  rcases this with rfl | rfl | rfl | rfl | rfl | rfl | rfl | rfl<;>decide +kernel
def ltr (x:Int):Nat:=97+(x%26).toNat
theorem ltr_at (x:Int):atI letS.cps.toList (x%26)=some (ltr x)∧ltr x∈letS.cps.toList:=by
  have h0:=Int.emod_nonneg x (b:=26) (by decide)
  have h1:=Int.emod_lt_of_pos x (b:=26) (by decide)
  obtain ⟨n,e⟩:=Int.eq_ofNat_of_zero_le h0
  have hn:n<26:=by omega
  have k:∀ m:Fin 26,letS.cps.toList[m.val]?=some (97+m.val):=by decide +kernel
  have hk:=k ⟨n,hn⟩
  unfold ltr
  rw [e,Int.toNat_natCast]
  exact ⟨atI_nat hk,List.mem_of_getElem? hk⟩
def cds (c:Int)(m a k:Nat):List Nat:=(List.range m).map fun (j:Nat)=>ltr (mixI c (902+(j:Int))+(k:Int)*(if (j:Int)=(a:Int) then 1 else 0))
def wk (c:Int)(m a k:Nat):Str:=⟨(cds c m a k).toArray⟩
theorem wk_len (c:Int)(m a k:Nat):(wk c m a k).length=m:=by
  show (cds c m a k).toArray.size=m
  rw [List.size_toArray]
  unfold cds
  rw [List.length_map,List.length_range]
theorem wk_let (c:Int)(m a k:Nat):ofS (wk c m a k) letS=true:=by
  unfold ofS
  rw [List.all_eq_true]
  intro x hx
  have hx:x∈cds c m a k:=hx
  unfold cds at hx
  obtain ⟨j,_,rfl⟩:=List.mem_map.mp hx
  exact decide_eq_true (ltr_at _).2
theorem wk_inj {c:Int}{m a k k':Nat}(ha:a<m)(hk:k<6)(hk':k'<6)(h:wk c m a k=wk c m a k'):k=k':=by
  have e:cds c m a k=cds c m a k':=by
    have:=congrArg (fun z:Str=>z.cps.toList) h
    exact this
  have e2:=congrArg (fun l:List Nat=>l[a]?) e
  unfold cds at e2
  simp only [List.getElem?_map,List.getElem?_range ha,Option.map_some,Option.some.injEq,if_true,Int.mul_one] at e2
  unfold ltr at e2
  have h0:=Int.emod_nonneg (mixI c (902+(a:Int))+(k:Int)) (b:=26) (by decide)
  have h1:=Int.emod_nonneg (mixI c (902+(a:Int))+(k':Int)) (b:=26) (by decide)
  omega
def nmX (w:Str):Str:=if inV (.str w) ws8=true then w++Str.ofString "x" else w
theorem nmX_name {w:Str}(l1:1≤w.length)(l8:w.length≤8)(lt:ofS w letS=true):nameB (nmX w)=true:=by
  unfold nmX
  split
  · rename_i c
    exact ws8_x w c
  · rename_i c
    unfold nameB
    rw [decide_eq_true l1,decide_eq_true l8,lt,Bool.eq_false_iff.mpr c]
    rfl
theorem app_x {a b:Str}(h:a++Str.ofString "x"=b++Str.ofString "x"):a=b:=by
  have e:(a++Str.ofString "x").cps.toList=(b++Str.ofString "x").cps.toList:=by rw [h]
  have f:∀ z:Str,(z++Str.ofString "x").cps.toList=z.cps.toList++(Str.ofString "x").cps.toList:=fun z=>by
    show (z.cps++(Str.ofString "x").cps).toList=_
    exact Array.toList_append
  rw [f,f] at e
  have:=List.append_cancel_right e
  cases a
  cases b
  congr 1
  exact Array.toList_inj.mp this
theorem nmX_inj {a b:Str}(l:a.length=b.length)(h:nmX a=nmX b):a=b:=by
  have lx:(Str.ofString "x").length=1:=by decide +kernel
  have la:∀ z:Str,(z++Str.ofString "x").length=z.length+1:=fun z=>by
    show (z.cps++(Str.ofString "x").cps).size=_
    rw [Array.size_append]
    rfl
  unfold nmX at h
  split at h<;>split at h
  · exact app_x h
  · have:=congrArg Str.length h
    rw [la] at this
    omega
  · have:=congrArg Str.length h
    rw [la] at this
    omega
  · exact h
def nmsX (c:Int)(m a:Nat):List Str:=(List.range 6).map fun k=>nmX (wk c m a k)
theorem nmsX_ok (c:Int){m a:Nat}(h1:1≤m)(h8:m≤8)(ha:a<m):(nmsX c m a).length=6∧(∀ x∈nmsX c m a,nameB x=true)∧(nmsX c m a).Nodup:=by
  unfold nmsX
  refine ⟨by rw [List.length_map,List.length_range],fun x hx=>?_,?_⟩
  · obtain ⟨k,_,rfl⟩:=List.mem_map.mp hx
    exact nmX_name (by rw [wk_len];exact h1) (by rw [wk_len];exact h8) (wk_let c m a k)
  · refine List.pairwise_map.mpr (List.Pairwise.imp_of_mem (fun {k k'} hk hk' ne e=>ne ?_) (List.nodup_range (n:=6)))
    rw [List.mem_range] at hk hk'
    exact wk_inj ha hk hk' (nmX_inj (by rw [wk_len,wk_len]) e)
def spNm:Sp:=fun vs H Q _=>∃ c:Int,vs=[.int c]∧∀ (p:Addr) (N:List Str) (H':Hp),Same H H'→H' p=some (.lst (N.map V.str))→N.length=6→(∀ x∈N,nameB x=true)→N.Nodup→Q (.ref p) H'
theorem join1 (ls:List Nat):Txt.join (Str.ofString "") (ls.map fun k=>(⟨#[k]⟩:Str))=⟨ls.toArray⟩:=(eq_of_beq (join_closes rfl)).trans (join_ones ls)
theorem sum1:∀ ls:List Nat,((ls.map fun k=>(⟨#[k]⟩:Str)).map (·.length)).sum=ls.length
  | []=>rfl
  | k::r=>by
    have:=sum1 r
    have h1:(⟨#[k]⟩:Str).length=1:=rfl
    simp only [List.map_cons,List.sum_cons,List.length_cons] at this ⊢
    omega
def fX (v:V):V:=match v with | .str w=>.str (nmX w) | v=>v
structure NmI (c:Int)(m a:Nat)(p:Addr)(H:Hp)(i:Nat)(σ:L2.St)(H':Hp):Prop where
  ex:∃ v5 v6 v7,σ=[some (.int c),some (.str letS),some (.int (m:Int)),some (.int (a:Int)),some (.ref p),v5,v6,v7]
  hp:H' p=some (.lst ((List.range i).map fun k=>V.str (wk c m a k)))
  sm:Same H H'
section
variable {P:Program}{w:World}{K:PySem.W.Frag}{mg:Str→Option Value}{base:Heap}
theorem ok_names81 (B:Blt mg) (h_l_mixed:FnAt P w K mg base "_law_mixed" ["_law_cell","_law_k"] 1 spMixed) (d:DefAt K mg "_law_names" s_l_names ["_law_cell"]):FnAt P w K mg base "_law_names" ["_law_cell"] 2 spNm:=by
  refine FnAt.of d sc_l_names (fun vs H Q E h=>?_) (fun f cdv A outer s H vs Q E hr h=>?_)
  · obtain ⟨c,rfl,_⟩:=h
    rfl
  obtain ⟨c,rfl,q⟩:=h
  refine ⟨_,(pss_cons (ps_set (i:=1) sc_l_names.nd rfl (by walk_at "l") pe_str)
      (pss_cons (ps_set (i:=2) sc_l_names.nd rfl (by walk_at "l") (pe_op op_add pe_int (pe_op op_mod (pe_callF h_l_mixed (hr.mono (by decide)) rfl (pa_cons (pv 0) (pa_cons pe_int pa_nil))) pe_int)))
      (pss_cons (ps_set (i:=3) sc_l_names.nd rfl (by walk_at "l") (pe_op op_mod (pe_callF h_l_mixed (hr.mono (by decide)) rfl (pa_cons (pv 0) (pa_cons pe_int pa_nil))) (pv 2)))
      (pss_cons (ps_set (i:=4) sc_l_names.nd rfl (by walk_at "l") (pe_lst pa_nil))
      (pss_cons (ps_for PassesOwn.never rfl (pi_range1 rfl B.range (pa_cons pe_int pa_nil)) (pg_name (i:=5) sc_l_names.nd rfl (by walk_at "l")) (pss_cons (ps_setcomp (i:=6) ["_law_j"] [1,0,5,3] sc_l_names.nd rfl (by walk_at "l") rfl (pi_range1 rfl B.range (pa_cons (pv 2) pa_nil)) (fun _ _ _ _ _=>pg_name (i:=0) (by show List.Nodup (["_law_j","_law_letters","_law_cell","_law_k","_law_at"]:List Str);decide +kernel) rfl (Or.inl rfl)) (fun _ _ _ _ _=>pts_nil) (fun _ _ _ _ _=>(pe_ix ix_str (pv 1) (pe_op op_mod (pe_op op_add (pe_callF h_l_mixed (hr.mono (by decide)) rfl (pa_cons (pv 2) (pa_cons (pe_op op_add pe_int (pv 0)) pa_nil))) (pe_op op_mul (pv 3) (pe_callTy call_int1 rfl B.int boot_int (pa_cons (pe_cmpR op_eq (pv 0) (pv 4) (nomark _)) pa_nil)))) pe_int) (fun _ _=>rfl))) ⟨⟨_,rfl,rfl,.inl rfl⟩,⟨⟨_,rfl,rfl,.inl rfl⟩,⟨⟨_,rfl,rfl,.inl rfl⟩,⟨⟨_,rfl,rfl,.inl rfl⟩,trivial⟩⟩⟩⟩ gOwn_name)
      (pss_one (ps_expr (pe_bmK K PySem.F.plainAttrs_list PySem.F.slot_list_append PySem.F.type_list_append mt_append (pv 4) (pa_cons (pe_bmK K PySem.F.plainAttrs_str PySem.F.slot_str_join PySem.F.type_str_join (mt_join K) pe_str (pa_cons (pv 6) pa_nil)) pa_nil))))))
      (pss_cons (ps_set (i:=7) sc_l_names.nd rfl (by walk_at "l") (pe_lst (pa_lits rfl)))
      (pss_one (ps_ret (pe_comp ["_law_name"] [7] rfl (pi_listK K (pv 4)) (fun _ _ _ _ _=>pg_name (i:=0) (by show List.Nodup (["_law_name","_law_some"]:List Str);decide +kernel) rfl (Or.inl rfl)) (fun _ _ _ _ _=>pts_nil) (fun _ _ _ _ _=>(pe_op op_add_str (pv 0) (pe_op op_repS pe_str (pe_callTy call_int1 rfl B.int boot_int (pa_cons (pe_cmpR (op_inK K) (pv 0) (pv 1) (by with_unfolding_all rfl)) pa_nil))))) ⟨⟨_,rfl,rfl,.inl rfl⟩,trivial⟩ gOwn_name))))))))),?_⟩
  refine seq_step fun k hk=>?_
  walk_at "vc"
  refine hk _ _ (seq_step fun k hk=>?_)
  walk_at "vc"
  refine ⟨_,_,rfl,_,rfl,hk _ _ (seq_step fun k hk=>?_)⟩
  have m0:=Int.emod_nonneg (mixI c 900) (b:=8) (by decide)
  have m1:=Int.emod_lt_of_pos (mixI c 900) (b:=8) (by decide)
  obtain ⟨m,em,ml,mh⟩:∃ m:Nat,1+mixI c 900%8=(m:Int)∧1≤m∧m≤8:=⟨(1+mixI c 900%8).toNat,by omega,by omega,by omega⟩
  rw [em]
  walk_at "vc"
  refine ⟨_,_,rfl,_,rfl,by omega,hk _ _ (seq_step fun k hk=>?_)⟩
  have a0:=Int.emod_nonneg (mixI c 901) (b:=(m:Int)) (by omega)
  have a1:=Int.emod_lt_of_pos (mixI c 901) (b:=(m:Int)) (by omega)
  obtain ⟨a,ea,ah⟩:∃ a:Nat,mixI c 901%(m:Int)=(a:Int)∧a<m:=⟨(mixI c 901%(m:Int)).toNat,by omega,by omega⟩
  rw [ea]
  walk_at "vc"
  refine ⟨by decide,fun p np=>hk _ _ (seq_step fun k hk=>?_)⟩
  walk_at "vc"
  refine loopR (NmI c m a p H) ⟨⟨_,_,_,rfl⟩,upd_same,Same.new np⟩ ?_ ?_
  · rintro i σ H1 hi ⟨⟨v5,v6,v7,rfl⟩,hp,sm⟩
    rw [gName_ap]
    refine seq_step fun k2 hk2=>?_
    walk_at "vc"
    refine ⟨by omega,by omega,?_⟩
    rw [Int.toNat_natCast]
    refine compR (fun _=>true) (fun j=>.str ⟨#[ltr (mixI c (902+(j:Int))+(i:Int)*(if (j:Int)=(a:Int) then 1 else 0))]⟩) (by omega) (fun j H2 R hj s2 h=>h) (fun j H2 R hj _ s2 h=>?_) (fun D hD=>hk2 _ _ ?_)
    · walk_at "vc"
      exact ⟨_,_,rfl,.inl ⟨by omega,by omega⟩,_,rfl,by decide,_,(ltr_at _).1,h⟩
    · have e1:((List.range m).filter fun _=>true).map (fun (j:Nat)=>V.str ⟨#[ltr (mixI c (902+(j:Int))+(i:Int)*(if (j:Int)=(a:Int) then 1 else 0))]⟩)=((cds c m a i).map fun k=>(⟨#[k]⟩:Str)).map V.str:=by
        rw [show (List.range m).filter (fun _=>true)=List.range m from List.filter_eq_self.mpr fun _ _=>rfl]
        unfold cds
        rw [List.map_map,List.map_map]
        rfl
      rw [e1]
      have nD:=hD
      have s2:=Same.new (o:=.lst (((cds c m a i).map fun k=>(⟨#[k]⟩:Str)).map V.str)) hD
      have cl:(cds c m a i).length=m:=by unfold cds;rw [List.length_map,List.length_range]
      walk_at "vc"
      refine ⟨⟨_,SqL.of (s2 _ _ hp)⟩,_,SqL.of upd_same,?_,_,s2 _ _ hp,?_,⟨_,_,_,rfl⟩,?_,(sm.trans s2).put np⟩
      · rw [sum1,List.length_map,cl,show (Str.ofString "").length=0 from rfl]
        omega
      · rw [List.length_map,List.length_range,sizeLine_eq]
        omega
      · rw [upd_same,join1,List.range_succ,List.map_append]
        rfl
  · rintro σ H1 ⟨⟨v5,v6,v7,rfl⟩,hp,sm⟩
    refine hk _ _ (seq_step fun k hk=>?_)
    walk_at "vc"
    refine ⟨by decide,fun p2 np2=>hk _ _ ?_⟩
    have s2:=Same.new (o:=.lst ws8) np2
    walk_at "vc"
    have ll:((List.range 6).map fun k=>V.str (wk c m a k)).length=6:=by rw [List.length_map,List.length_range]
    refine ⟨⟨_,SqL.of (s2 _ _ hp)⟩,compL (K:=K) (xs:=(List.range 6).map fun k=>V.str (wk c m a k)) (fun _=>true) fX (SqL.of (s2 _ _ hp)) (by rw [ll];decide) (fun v H2 R hv s3 h=>h) (fun v H2 R hv _ s3 h=>?_) (fun D hD=>?_)⟩
    · obtain ⟨k',_,rfl⟩:=List.mem_map.mp hv
      have h:R (.str (nmX (wk c m a k'))) H2:=h
      unfold nmX at h
      have wl:=wk_len c m a k'
      generalize wk c m a k'=w at h wl
      walk_at "vc"
      refine ⟨ws8,.inl (s3.seq (SqL.of upd_same)),rfl,flat8,?_⟩
      by_cases c8:inV (.str w) ws8=true
      · rw [if_pos c8] at h
        rw [if_pos c8,if_pos rfl]
        exact ⟨.inr rfl,small5 (by rw [show (Str.ofString "x").length=1 by decide +kernel];omega),h⟩
      · rw [if_neg c8] at h
        rw [if_neg c8,if_neg (by decide)]
        refine ⟨.inl rfl,small5 (by rw [show Str.empty.length=0 from rfl];omega),?_⟩
        have e:w++Str.empty=w:=by
          cases w
          show (⟨_++#[]⟩:Str)=_
          rw [Array.append_empty]
        rw [e]
        exact h
    · obtain ⟨n1,n2,n3⟩:=nmsX_ok c ml mh ah
      refine q D (nmsX c m a) _ ((sm.trans s2).trans (Same.new hD)) ?_ n1 n2 n3
      rw [upd_same,show ((List.range 6).map fun k=>V.str (wk c m a k)).filter (fun _=>true)=(List.range 6).map fun k=>V.str (wk c m a k) from List.filter_eq_self.mpr fun _ _=>rfl]
      unfold nmsX
      rw [List.map_map,List.map_map]
      rfl
end
def GoodC (c:Cl):Prop:=∃ i:Int,c.2.2=.int i∧(c.2.1=valuesS∧0≤i∧i≤999∨c.2.1=bitsS∧1≤i∧i≤40)
def spCs:Sp:=fun vs H Q _=>∃ (c:Int) (m:Nat),vs=[.int c,.int (m:Int)]∧1≤m∧m≤6∧∀ (p:Addr) (us:List V) (cs:List Cl) (H':Hp),Same H H'→H' p=some (.lst us)→CsAt H' us cs→cs.length=m→(∀ c∈cs,GoodC c∧nameB c.1=true)→(cs.map (·.1)).Nodup→Q (.ref p) H'
theorem name_20' {w:Str}(h:nameB w=true):w.length≤8:=by
  unfold nameB at h
  simp only [Bool.and_eq_true,decide_eq_true_eq] at h
  exact h.1.1.2
theorem CsAt.push {H H':Hp}{a:Addr}{us:List V}{cs:List Cl}{c:Cl}(ca:CsAt H us cs)(g:∀ c∈cs,GoodC c)(gc:GoodC c)(hl:c.1.length≤1000)(k:∀ b xs,H b=some (.tup xs)→H' b=some (.tup xs))(ha:H' a=some (.tup [.str c.1,.str c.2.1,c.2.2])):CsAt H' (us++[.ref a]) (cs++[c]):=by
  have sz:∀ {c:Cl},GoodC c→SzOk H' c.2.2:=fun {c} ⟨i,e,_⟩=>by
    rw [e]
    exact trivial
  refine ⟨by rw [List.length_append,List.length_append,ca.len];rfl,fun i u c' e1 e2=>?_⟩
  by_cases z:i<us.length
  · rw [List.getElem?_append_left z] at e1
    rw [List.getElem?_append_left (by rw [← ca.len];exact z)] at e2
    obtain ⟨b,x,y,_,w⟩:=ca.it i u c' e1 e2
    exact ⟨b,x,k _ _ y,sz (g c' (List.mem_of_getElem? e2)),w⟩
  · rw [List.getElem?_append_right (by omega)] at e1
    rw [List.getElem?_append_right (by rw [← ca.len];omega),← ca.len] at e2
    cases w:i-us.length with
    | zero =>
      rw [w] at e1 e2
      cases e1
      cases e2
      exact ⟨a,rfl,ha,sz gc,hl⟩
    | succ j =>
      rw [w] at e1
      cases e1
structure ClI (c:Int)(m:Nat)(n p:Addr)(N:List Str)(H:Hp)(i:Nat)(σ:L2.St)(H':Hp):Prop where
  ex:∃ (us:List V) (cs:List Cl) (v4 v5 v6:Option V),σ=[some (.int c),some (.int (m:Int)),some (.ref n),some (.ref p),v4,v5,v6]∧H' p=some (.lst us)∧CsAt H' us cs∧cs.map (·.1)=N.take i∧∀ c∈cs,GoodC c
  sm:Fx p H H'
section
variable {P:Program}{w:World}{K:PySem.W.Frag}{mg:Str→Option Value}{base:Heap}
theorem ok_columns81 (B:Blt mg) (h_l_mixed:FnAt P w K mg base "_law_mixed" ["_law_cell","_law_k"] 1 spMixed) (h_l_names:FnAt P w K mg base "_law_names" ["_law_cell"] 2 spNm) (d:DefAt K mg "_law_columns" s_l_columns ["_law_cell","_law_many"]):FnAt P w K mg base "_law_columns" ["_law_cell","_law_many"] 3 spCs:=by
  refine FnAt.of d sc_l_columns (fun vs H Q E h=>?_) (fun f cdv A outer s H vs Q E hr h=>?_)
  · obtain ⟨c,m,rfl,_⟩:=h
    rfl
  obtain ⟨c,m,rfl,m1,m6,q⟩:=h
  refine ⟨_,(pss_cons (ps_set (i:=2) sc_l_columns.nd rfl (by walk_at "l") (pe_callF h_l_names (hr.mono (by decide)) rfl (pa_cons (pv 0) pa_nil)))
      (pss_cons (ps_set (i:=3) sc_l_columns.nd rfl (by walk_at "l") (pe_lst pa_nil))
      (pss_cons (ps_for PassesOwn.never rfl (pi_range1 rfl B.range (pa_cons (pv 1) pa_nil)) (pg_name (i:=4) sc_l_columns.nd rfl (by walk_at "l")) (pss_cons (ps_set (i:=5) sc_l_columns.nd rfl (by walk_at "l") (pe_callF h_l_mixed (hr.mono (by decide)) rfl (pa_cons (pv 0) (pa_cons (pe_op op_add pe_int (pv 4)) pa_nil))))
      (pss_cons (ps_set (i:=6) sc_l_columns.nd rfl (by walk_at "l") (pe_op op_mod (pe_op op_fdiv (pv 5) pe_int) pe_int))
      (pss_cons (ps_if (pt_cmpR op_eq (pe_op op_mod (pe_op op_fdiv (pv 5) pe_int) pe_int) pe_int (nomark _)) (pss_one (ps_set (i:=6) sc_l_columns.nd rfl (by walk_at "l") pe_int)) pss_nil)
      (pss_cons (ps_if (pt_cmpR op_eq (pe_op op_mod (pv 5) pe_int) pe_int (nomark _)) (pss_one (ps_set (i:=6) sc_l_columns.nd rfl (by walk_at "l") (pe_callB (call_min2 rfl) rfl B.min boot_minB (pa_cons (pe_op op_add pe_int (pv 6)) (pa_cons pe_int pa_nil))))) pss_nil)
      (pss_one (ps_expr (pe_bmK K PySem.F.plainAttrs_list PySem.F.slot_list_append PySem.F.type_list_append mt_append (pv 3) (pa_cons (pe_tup (pa_cons (pe_ix (ix_listK K) (pv 2) (pv 4) (fun _ _=>rfl)) (pa_cons (pe_ix (ix_listK K) (pe_lst (pa_cons pe_str (pa_cons pe_str pa_nil))) (pe_op op_mod (pv 5) pe_int) (fun _ _=>rfl)) (pa_cons (pv 6) pa_nil)))) pa_nil)))))))))
      (pss_one (ps_ret (pv 3)))))),?_⟩
  refine seq_step fun k hk=>?_
  walk_at "vc"
  refine ⟨c,rfl,fun n N H1 s1 hn n6 nN nd=>hk _ _ (seq_step fun k hk=>?_)⟩
  walk_at "vc"
  refine ⟨by decide,fun p np=>hk _ _ (seq_step fun k hk=>?_)⟩
  have s2:=Same.new (o:=.lst []) np
  walk_at "vc"
  refine ⟨by omega,by omega,?_⟩
  rw [Int.toNat_natCast]
  have s12:=s1.trans s2
  have npH:H p=none:=none_of s1 np
  have pn:n≠p:=ne_of_none hn np
  refine loopR (ClI c m n p N (upd H1 p (.lst []))) ⟨⟨[],[],none,none,none,rfl,upd_same,⟨rfl,fun i u c e=>by cases e⟩,rfl,fun c h=>by cases h⟩,fun b ob nb e=>e⟩ ?_ ?_
  · rintro i σ H3 hi ⟨⟨us,cs,v4,v5,v6,rfl,hp,ca,cn,cg⟩,fx⟩
    rw [gName_ap]
    refine seq_step fun k2 hk2=>?_
    walk_at "vc"
    refine ⟨_,_,rfl,hk2 _ _ (seq_step fun k2 hk2=>?_)⟩
    generalize mixI c (920+(i:Int))=x
    walk_at "vc"
    refine hk2 _ _ (seq_step fun k2 hk2=>?_)
    have z0:=Int.emod_nonneg (x/16) (b:=7) (by decide)
    have z1:=Int.emod_lt_of_pos (x/16) (b:=7) (by decide)
    generalize x/16%7=sz at z0 z1
    have st1:∀ sz:Int,0≤sz→sz≤999→k2 [some (.int c),some (.int (m:Int)),some (.ref n),some (.ref p),some (.int (i:Int)),some (.int x),some (.int sz)] H3:=fun sz z0 z1=>by
      refine hk2 _ _ (seq_step fun k2 hk2=>?_)
      have st2:∀ (b:Bool) (sz:Int),x%2=(if b=true then 1 else 0)→(b=true→1≤sz∧sz≤40)→(b=false→0≤sz∧sz≤999)→k2 [some (.int c),some (.int (m:Int)),some (.ref n),some (.ref p),some (.int (i:Int)),some (.int x),some (.int sz)] H3:=fun b sz eb y1 y2=>by
        refine hk2 _ _ ?_
        obtain ⟨wj,ej⟩:∃ wj,N[i]?=some wj:=⟨_,List.getElem?_eq_getElem (by omega)⟩
        have hn3:H3 n=some (.lst (N.map V.str)):=fx n _ pn (s2 _ _ hn)
        have aj:atI (N.map V.str) (i:Int)=some (.str wj):=atI_nat (by rw [List.getElem?_map,ej];rfl)
        have cl:=ca.len
        have cn':cs.length=i:=by
          have:=congrArg List.length cn
          rw [List.length_map,List.length_take,n6] at this
          omega
        have ab:atI [V.str (Str.ofString "values"),V.str (Str.ofString "bits")] (x%2)=some (.str (if b=true then bitsS else valuesS)):=by
          rw [eb]
          cases b
          · exact atI_nat (j:=0) rfl
          · exact atI_nat (j:=1) rfl
        have gc:GoodC (wj,if b=true then bitsS else valuesS,V.int sz):=by
          refine ⟨sz,rfl,?_⟩
          cases b with
          | true=>exact .inr ⟨rfl,y1 rfl⟩
          | false=>exact .inl ⟨rfl,y2 rfl⟩
        walk_at "vc"
        refine ⟨⟨_,SqL.of hp⟩,_,SqL.of hn3,_,aj,by decide,fun p1 np1=>⟨_,SqL.of upd_same,_,ab,by decide,fun p2 np2=>?_⟩⟩
        have t1:=Same.new (o:=.lst [V.str (Str.ofString "values"),V.str (Str.ofString "bits")]) np1
        have t2:=Same.new (o:=.tup [V.str wj,V.str (if b=true then bitsS else valuesS),V.int sz]) np2
        have t12:=t1.trans t2
        have hp5:=t12 _ _ hp
        have p2p:p2≠p:=fun z=>by rw [z] at np2;rw [t1 _ _ hp] at np2;cases np2
        have a5:=upd_same (H:=upd H3 p1 (.lst [V.str (Str.ofString "values"),V.str (Str.ofString "bits")])) (a:=p2) (o:=.tup [V.str wj,V.str (if b=true then bitsS else valuesS),V.int sz])
        refine ⟨_,hp5,by rw [cl,cn',sizeLine_eq];omega,⟨us++[.ref p2],cs++[(wj,if b=true then bitsS else valuesS,V.int sz)],_,_,_,rfl,upd_same,?_,?_,?_⟩,(fx.trans (Fx.of t12)).put⟩
        · refine CsAt.push ca cg gc (Nat.le_trans (name_20' (nN wj (List.mem_of_getElem? ej))) (by decide)) (fun b xs e=>?_) ?_
          · rw [upd_ne (fun z=>by rw [z,hp] at e;cases e)]
            exact t12 _ _ e
          · rw [upd_ne p2p]
            exact a5
        · rw [List.map_append,cn,List.take_add_one,ej]
          rfl
        · intro c' hc'
          rcases List.mem_append.mp hc' with hc' | hc'
          · exact cg c' hc'
          · rw [List.mem_singleton.mp hc']
            exact gc
      walk_at "vc"
      have x0:=Int.emod_nonneg x (b:=2) (by decide)
      have x1:=Int.emod_lt_of_pos x (b:=2) (by decide)
      split
      · rename_i e1
        exact ⟨_,_,⟨rfl,rfl⟩,st2 true _ (by rw [e1];rfl) (fun _=>by split<;>omega) (fun h=>by cases h)⟩
      · rename_i e1
        exact st2 false _ (by rw [if_neg (by decide)];omega) (fun h=>by cases h) (fun _=>⟨z0,z1⟩)
    walk_at "vc"
    split
    · exact st1 _ (by decide) (by decide)
    · exact st1 _ z0 (by omega)
  · rintro σ H3 ⟨⟨us,cs,v4,v5,v6,rfl,hp,ca,cn,cg⟩,fx⟩
    refine hk _ _ ?_
    walk_at "vc"
    refine q p us cs H3 (fun b ob e=>fx b ob (ne_of_none e npH) (s12 _ _ e)) hp ca ?_ (fun c' hc=>⟨cg c' hc,nN _ ?_⟩) (by rw [cn];exact List.Nodup.sublist (List.take_sublist _ _) nd)
    · have:=congrArg List.length cn
      rw [List.length_map,List.length_take,n6] at this
      omega
    · have:c'.1∈cs.map (·.1):=List.mem_map.mpr ⟨c',hc,rfl⟩
      rw [cn] at this
      exact List.mem_of_mem_take this
def spTop:Sp:=fun vs H Q _=>∃ (a:Addr) (n k:Str) (i:Int),vs=[.ref a]∧H a=some (.tup [.str n,.str k,.int i])∧0≤i∧i≤999∧Q (.int (if k=bitsS then 2^i.toNat-1 else i)) H
theorem ok_top81 (d:DefAt K mg "_law_top" s_l_top ["_law_column"]):FnAt P w K mg base "_law_top" ["_law_column"] 1 spTop:=by
  refine FnAt.of d sc_l_top (fun vs H Q E h=>?_) (fun f cdv A outer s H vs Q E hr h=>?_)
  · obtain ⟨a,n,k,i,rfl,_⟩:=h
    rfl
  obtain ⟨a,n,k,i,rfl,ha,i0,i1,q⟩:=h
  refine ⟨_,(pss_cons (ps_if (pt_cmpR op_eq (pe_ix (ix_tupK K) (pv 0) pe_int (fun _ _=>rfl)) pe_str (nomark _)) (pss_one (ps_ret (pe_op op_sub (pe_op op_shlB pe_int (pe_ix (ix_tupK K) (pv 0) pe_int (fun _ _=>rfl))) pe_int))) pss_nil)
      (pss_one (ps_ret (pe_ix (ix_tupK K) (pv 0) pe_int (fun _ _=>rfl))))),?_⟩
  walk_at "vc"
  refine ⟨_,.inl (.inl ha),_,atI_nat (j:=1) rfl,rfl,?_⟩
  by_cases c1:k=bitsS
  · rw [if_pos (show V.str k=V.str (Str.ofString "bits") from congrArg V.str c1)]
    rw [if_pos c1] at q
    refine ⟨_,.inl (.inl ha),_,atI_nat (j:=2) rfl,_,rfl,⟨i0,by omega,by decide⟩,?_⟩
    rw [Int.one_mul]
    exact q
  · rw [if_neg (show ¬ V.str k=V.str (Str.ofString "bits") from fun z=>c1 (V.str.inj z))]
    rw [if_neg c1] at q
    exact ⟨_,.inl (.inl ha),_,atI_nat (j:=2) rfl,q⟩
end
structure XR (K:PySem.W.Frag)(mg:Str→Option Value)(CX CE:Addr):Prop where
  g:mg "BadColumn"=some (.ref CX)
  gE:mg "MarksError"=some (.ref CE)
  c:XCls K CX
  i:EX.XIsi K CX
  m1:PySem.W.exmOne K (.ref CX) (.ref CX)=some true
  m2:PySem.W.exmOne K (.ref CX) (.ref CE)=some true
  k1:PySem.W.kitOne K (.ref CX) (.ref CX)=some true
  k2:PySem.W.kitOne K (.ref CX) (.type "ValueError")=some true
def spRef (K:PySem.W.Frag):Sp:=fun vs H Q _=>∃ (l:Addr) (us:List V) (cs:List Cl),vs=[.ref l]∧H l=some (.lst us)∧CsAt H us cs∧us.length≤1000∧colsOk cs=false∧∀ H',Same H H'→Q (.bl true) H'
section
variable {P:Program}{w:World}{K:PySem.W.Frag}{mg:Str→Option Value}{base:Heap}{CM CV CB CX CT CD CE:Addr}
theorem ok_refused81 (B:Blt mg)(xr:XR K mg CX CE)(h_Table:MakeR P w K mg base "Table" CT ["self","columns"] 7 (spTI CM CV CB CX CT K))(h_Desk:MakeR P w K mg base "Desk" CD ["self","columns"] 9 (spDI CX CD K))(d:DefAt K mg "_law_refused" s_l_refused ["_law_columns_here"]):FnAt P w K mg base "_law_refused" ["_law_columns_here"] 12 (spRef K):=by
  refine FnAt.of d sc_l_refused (fun vs H Q E h=>?_) (fun f cdv A outer s H vs Q E hr h=>?_)
  · obtain ⟨l,us,cs,rfl,_⟩:=h
    rfl
  obtain ⟨l,us,cs,rfl,hl,ca,ul,no,q⟩:=h
  have g_BadColumn:=xr.g
  have g_MarksError:=xr.gE
  refine ⟨_,(pss_cons (ps_set (i:=1) sc_l_refused.nd rfl (by walk_at "l") pe_bl)
      (pss_cons (ps_set (i:=2) sc_l_refused.nd rfl (by walk_at "l") pe_bl)
      (pss_cons (ps_tryD (pxd_cons (pxd_expr (pex_make h_Table (hr.mono (by decide)) rfl (pa_cons (pv 0) pa_nil))) pxd_nil) (ph_no K g_BadColumn (fun ea C dx oe vs hcX hdX hxX=>(pss_one (ps_set (i:=1) sc_l_refused.nd rfl (by walk_at "l") pe_bl))) ph_nil rfl))
      (pss_cons (ps_tryD (pxd_cons (pxd_expr (pex_make h_Desk (hr.mono (by decide)) rfl (pa_cons (pv 0) pa_nil))) pxd_nil) (ph_as (i:=3) K g_MarksError (fun ea C dx oe vs hcX hdX hxX=>(pss_one (ps_set (i:=2) sc_l_refused.nd rfl (by walk_at "l") (pe_and (pe_callB (call_isiV K hcX) rfl B.isi boot_isi (pa_cons (pv 3) (pa_cons (pe_glob (v:=.ref _) rfl g_BadColumn rfl) pa_nil))) (pe_one (pe_callB (call_isiV K hcX) rfl B.isi boot_isi (pa_cons (pv 3) (pa_cons (pe_bltn (v:=.ty "ValueError") rfl B.ValueError boot_ValueError rfl) pa_nil)))))))) ph_nil sc_l_refused.nd rfl rfl rfl))
      (pss_one (ps_ret (pe_and (pv 1) (pe_one (pv 2))))))))),?_⟩
  refine seq_step fun k hk=>?_
  walk_at "vc"
  refine hk _ _ (seq_step fun k hk=>?_)
  walk_at "vc"
  refine hk _ _ (seq_step fun k hk=>?_)
  refine ⟨_,rfl,fun y dy ny ndy hne=>?_⟩
  have s1:Same H (upd (upd H dy (.own y)) y (.ins CT dy [])):=(Same.new ndy).trans (Same.new (by rw [upd_ne (Ne.symm hne)];exact ny))
  refine ⟨y,dy,l,us,cs,rfl,upd_same,s1.seq (SqL.of hl),ca.same s1,ul,fun ok=>(by rw [no] at ok;cases ok),fun _ H2 s2=>?_⟩
  have t2:=s1.trans s2
  refine ⟨_,rfl,fun ea hea=>⟨true,xr.m1,?_⟩⟩
  rw [if_pos rfl]
  dsimp only
  walk_at "vc"
  refine hk _ _ (seq_step fun k hk=>?_)
  refine ⟨_,rfl,fun z dz nz ndz hnz=>?_⟩
  have s3:Same H2 (upd (upd H2 dz (.own z)) z (.ins CD dz [])):=(Same.new ndz).trans (Same.new (by rw [upd_ne (Ne.symm hnz)];exact nz))
  have t3:=t2.trans s3
  refine ⟨z,dz,l,us,cs,rfl,upd_same,t3.seq (SqL.of hl),ca.same t3,ul,no,fun H4 s4=>?_⟩
  refine ⟨_,rfl,fun ea hea=>⟨true,xr.m2,?_⟩⟩
  rw [if_pos rfl]
  dsimp only
  walk_at "vc"
  refine ⟨_,_,_,rfl,rfl,xr.i,xr.k1,_,rfl,?_⟩
  rw [if_pos rfl]
  refine ⟨_,_,_,rfl,rfl,xr.i,xr.k2,hk _ _ ?_⟩
  walk_at "vc"
  exact q _ (t3.trans s4)
end
theorem goodL_all:∀ (cs:List Cl) (seen:List Str),goodL seen cs=true→(∀ c∈cs,nameB c.1=true∧sizeB c.2.1 c.2.2=true∧c.1∉seen)∧(cs.map (·.1)).Nodup
  | [],_,_=>⟨fun c h=>(by cases h),List.nodup_nil⟩
  | c :: r,seen,h=>by
    have h:(nameB c.1&&!decide (c.1∈seen)&&sizeB c.2.1 c.2.2&&goodL (seen++[c.1]) r)=true:=h
    simp only [Bool.and_eq_true,Bool.not_eq_true',decide_eq_false_iff_not] at h
    obtain ⟨⟨⟨h1,h2⟩,h3⟩,h4⟩:=h
    obtain ⟨a,b⟩:=goodL_all r _ h4
    refine ⟨fun c' hc=>?_,?_⟩
    · rcases List.mem_cons.mp hc with rfl | hc
      · exact ⟨h1,h3,h2⟩
      · obtain ⟨x,y,z⟩:=a c' hc
        exact ⟨x,y,fun w=>z (List.mem_append_left _ w)⟩
    · show (c.1::r.map (·.1)).Nodup
      refine List.nodup_cons.mpr ⟨fun w=>?_,b⟩
      obtain ⟨c',hc,e⟩:=List.mem_map.mp w
      exact (a c' hc).2.2 (List.mem_append_right _ (by rw [e];exact List.mem_cons_self))
theorem cols_bad {cs:List Cl}{c:Cl}(hc:c∈cs)(h:nameB c.1=false∨sizeB c.2.1 c.2.2=false):colsOk cs=false:=by
  rw [Bool.eq_false_iff]
  intro k
  unfold colsOk at k
  rw [Bool.and_eq_true] at k
  obtain ⟨a,_⟩:=goodL_all cs [] k.2
  obtain ⟨x,y,_⟩:=a c hc
  rcases h with h | h
  · rw [x] at h;cases h
  · rw [y] at h;cases h
theorem cols_dup {cs:List Cl}(h:¬ (cs.map (·.1)).Nodup):colsOk cs=false:=by
  rw [Bool.eq_false_iff]
  intro k
  unfold colsOk at k
  rw [Bool.and_eq_true] at k
  exact h (goodL_all cs [] k.2).2
theorem name_long {a t:Str}(h1:1≤a.length)(h:t.length=8):nameB (a++t)=false:=by
  have l:(a++t).length=a.length+t.length:=by
    show (a.cps++t.cps).size=_
    exact Array.size_append
  unfold nameB
  rw [decide_eq_false (by omega:¬ (a++t).length≤8),Bool.and_false]
  rfl
theorem name_odd {a t:Str}(h:ofS t letS=false):nameB (a++t)=false:=by
  have e:(a++t).cps.toList=a.cps.toList++t.cps.toList:=by
    show (a.cps++t.cps).toList=_
    exact Array.toList_append
  have k:ofS (a++t) letS=false:=by
    unfold ofS at *
    rw [e,List.all_append,h,Bool.and_false]
  unfold nameB
  rw [k,Bool.and_false]
  rfl
theorem CsAt.cut {H:Hp}{us:List V}{cs:List Cl}{c:Cl}{a:Addr}(ca:CsAt H us cs)(ha:H a=some (.tup [.str c.1,.str c.2.1,c.2.2]))(hz:SzOk H c.2.2)(hl:c.1.length≤1000)(i:Nat):CsAt H (us.take i++[.ref a]++us.drop (i+1)) (cs.take i++[c]++cs.drop (i+1)):=by
  have cl:=ca.len
  refine ⟨by simp [cl],fun j u c' e1 e2=>?_⟩
  by_cases z:j<(us.take i).length
  · have z':j<(cs.take i).length:=by rw [List.length_take] at z ⊢;omega
    rw [List.append_assoc,List.getElem?_append_left z] at e1
    rw [List.append_assoc,List.getElem?_append_left z'] at e2
    rw [List.getElem?_take] at e1 e2
    split at e1
    · rename_i w
      rw [if_pos w] at e2
      exact ca.it j u c' e1 e2
    · cases e1
  · have lt:(us.take i).length=(cs.take i).length:=by rw [List.length_take,List.length_take,cl]
    rw [List.append_assoc,List.getElem?_append_right (by omega)] at e1
    rw [List.append_assoc,List.getElem?_append_right (by omega),← lt] at e2
    cases w:j-(us.take i).length with
    | zero =>
      rw [w] at e1 e2
      cases e1
      cases e2
      exact ⟨a,rfl,ha,hz,hl⟩
    | succ n =>
      rw [w] at e1 e2
      have e1:(us.drop (i+1))[n]?=some u:=e1
      have e2:(cs.drop (i+1))[n]?=some c':=e2
      rw [List.getElem?_drop] at e1 e2
      exact ca.it _ u c' e1 e2
def cat3:R2:=(fun x y H Q=>∃ i j,x=V.str i∧y=V.str j∧i.length+j.length≤sizeLine∧Q (V.str (i++j)) H)
def spSp (K:PySem.W.Frag):Sp:=fun vs H Q _=>∃ (l:Addr) (x:Int) (us:List V) (cs:List Cl),vs=[.ref l,.int x]∧H l=some (.lst us)∧CsAt H us cs∧1≤cs.length∧cs.length≤6∧(∀ c∈cs,GoodC c∧nameB c.1=true)∧0≤x∧∀ (p:Addr) (us':List V) (cs':List Cl) (H':Hp),Same H H'→H' p=some (.lst us')→CsAt H' us' cs'→us'.length≤1000→colsOk cs'=false→Q (.ref p) H'
def tSp (K:PySem.W.Frag):TS:=tSeq (tAsg (tOp (rI (fun x j=>0<j) fun i j=>V.int (i%j)) (tOp (rI CDiv fun i j=>V.int (i/j)) (tVar 1) (tC (V.int 64))) (tCB (rLen K) (tCons (tVar 0) tNil))) (gName 2)) (tSeq (tAsg (tOp (rIxL K) (tVar 0) (tVar 2)) (gTup K 3 (gCons (gName 3) (gCons (gName 4) (gCons (gName 5) gNil))))) (tSeq (tAsg (tOp (rI (fun x j=>0<j) fun i j=>V.int (i%j)) (tVar 1) (tC (V.int 8))) (gName 6)) (tSeq (tAsg (tOp (rI (fun x j=>0<j) fun i j=>V.int (i%j)) (tOp (rI CDiv fun i j=>V.int (i/j)) (tVar 1) (tC (V.int 8))) (tC (V.int 8))) (gName 7)) (tSeq (tIfS (tTest (tOp rEq (tVar 6) (tC (V.int 0)))) (tRet (tOp (rIxL K) (tLst (tCons (tSl (rSlL K) (tVar 0) tNoPart (tPart (tC (V.int 0)))) (tCons (tOp rCat (tVar 0) (tOp rRep (tLst (tCons (tTup (tCons (tC (V.str (Str.ofString "zzzzzzzz"))) (tCons (tC (V.str (Str.ofString "bits"))) (tCons (tC (V.int 1)) tNil)))) tNil)) (tOp (rI0 fun i j=>V.int (i-j)) (tC (V.int 7)) (tCB (rLen K) (tCons (tVar 0) tNil))))) tNil))) (tOp (rI (fun x j=>0<j) fun i j=>V.int (i%j)) (tVar 7) (tC (V.int 2))))) tNext) (tSeq (tIfS (tTest (tOp (rI0 fun i j=>V.bl (decide (i<j))) (tVar 6) (tC (V.int 3)))) (tAsg (tOp (rIxL K) (tLst (tCons (tC (V.str (Str.ofString ""))) (tCons (tOp cat3 (tVar 3) (tC (V.str (Str.ofString "abcdefgh")))) (tCons (tOp cat3 (tSl rSlS (tVar 3) (tPart (tC (V.int 1))) tNoPart) (tC (V.str (Str.ofString "A")))) (tCons (tOp cat3 (tSl rSlS (tVar 3) (tPart (tC (V.int 1))) tNoPart) (tC (V.str (Str.ofString " ")))) (tCons (tOp cat3 (tSl rSlS (tVar 3) (tPart (tC (V.int 1))) tNoPart) (tC (V.str (Str.ofString "1")))) (tCons (tC (V.str (Str.ofString "from"))) (tCons (tC (V.str (Str.ofString "none"))) (tCons (tC (V.str (Str.ofString "is"))) tNil))))))))) (tVar 7)) (gName 3)) tNext) (tSeq (tIfS (tTest (tOp rEq (tVar 6) (tC (V.int 3)))) (tAsg (tOp (rIxT K) (tOp (rIxL K) (tVar 0) (tOp (rI0 fun i j=>V.int (i-j)) (tVar 2) (tC (V.int 1)))) (tC (V.int 0))) (gName 3)) tNext) (tSeq (tIfS (tOr (tTest (tOp rEq (tVar 6) (tC (V.int 4)))) (tAnd (tTest (tOp rEq (tVar 6) (tC (V.int 3)))) (tTest (tOp rEq (tCB (rLen K) (tCons (tVar 0) tNil)) (tC (V.int 1)))))) (tAsg (tOp (rIxL K) (tLst (tLits [Str.ofString "value",Str.ofString "bit",Str.ofString "",Str.ofString "Bits",Str.ofString "VALUES",Str.ofString "values ",Str.ofString "list",Str.ofString "runs"])) (tVar 7)) (gName 4)) tNext) (tSeq (tIfS (tTest (tOp rEq (tVar 6) (tC (V.int 5)))) (tAsg (tOp (rIxL K) (tLst (tCons (tUn (rU fun i=>V.int (-i)) (tC (V.int 1))) (tCons (tC (V.int 0)) (tCons (tUn (rU fun i=>V.int (-i)) (tC (V.int 1))) (tCons (tUn (rU fun i=>V.int (-i)) (tC (V.int 40))) tNil))))) (tOp (rI0 fun i j=>V.int (i+j)) (tOp (rI CMul fun i j=>V.int (i*j)) (tC (V.int 2)) (tCB (fun xs H Q=>(∃ i,xs=[V.int i]∧Q (V.int i) H)∨∃ k,xs=[V.bl k]∧Q (V.int (if k=true then 1 else 0)) H) (tCons (tOp rEq (tVar 4) (tC (V.str (Str.ofString "values")))) tNil))) (tOp (rI (fun x j=>0<j) fun i j=>V.int (i%j)) (tVar 7) (tC (V.int 2))))) (gName 5)) tNext) (tSeq (tIfS (tTest (tOp rEq (tVar 6) (tC (V.int 6)))) (tAsg (tOp (rIxL K) (tLst (tCons (tC (V.int 41)) (tCons (tC (V.int 999)) (tCons (tC (V.int 1000)) (tCons (tOp (rI CPow fun i j=>V.int (i^j.toNat)) (tC (V.int 10)) (tC (V.int 30))) tNil))))) (tOp (rI0 fun i j=>V.int (i+j)) (tOp (rI CMul fun i j=>V.int (i*j)) (tC (V.int 2)) (tCB (fun xs H Q=>(∃ i,xs=[V.int i]∧Q (V.int i) H)∨∃ k,xs=[V.bl k]∧Q (V.int (if k=true then 1 else 0)) H) (tCons (tOp rEq (tVar 4) (tC (V.str (Str.ofString "values")))) tNil))) (tOp (rI (fun x j=>0<j) fun i j=>V.int (i%j)) (tVar 7) (tC (V.int 2))))) (gName 5)) tNext) (tSeq (tIfS (tTest (tOp rEq (tVar 6) (tC (V.int 7)))) (tAsg (tOp (rIxL K) (tLst (tCons (tC (V.bl true)) (tCons (tC (V.bl false)) (tCons (tC V.non) (tCons (tC (V.str (Str.ofString "1"))) (tCons (tC (V.str (Str.ofString ""))) (tCons (tTup (tCons (tC (V.int 1)) tNil)) (tCons (tLst (tCons (tC (V.int 1)) tNil)) (tCons (tC (V.str (Str.ofString "bits"))) tNil))))))))) (tVar 7)) (gName 5)) tNext) (tRet (tOp rCat (tOp rCat (tSl (rSlL K) (tVar 0) tNoPart (tPart (tVar 2))) (tLst (tCons (tTup (tCons (tVar 3) (tCons (tVar 4) (tCons (tVar 5) tNil)))) tNil))) (tSl (rSlL K) (tVar 0) (tPart (tOp (rI0 fun i j=>V.int (i+j)) (tVar 2) (tC (V.int 1)))) tNoPart)))))))))))))
theorem cutV_from (us:List V){n:Nat}(h:n≤us.length):cutV us (some (n:Int)) none=us.drop n:=by
  unfold cutV
  have e:HT.sIx us.length 0 (some ((n:Nat):Int))=min n us.length:=HT.sIx_nat _ _ n
  have e1:HT.sIx us.length us.length none=us.length:=rfl
  rw [e,e1,Nat.min_eq_left h,List.take_of_length_le (by rw [List.length_drop];exact Nat.le_refl _)]
theorem cutV_to (us:List V){n:Nat}(h:n≤us.length):cutV us none (some (n:Int))=us.take n:=by
  unfold cutV
  have e:HT.sIx us.length us.length (some ((n:Nat):Int))=min n us.length:=HT.sIx_nat _ _ n
  have e1:HT.sIx us.length 0 none=0:=rfl
  rw [e,e1,List.drop_zero,Nat.sub_zero,Nat.min_eq_left h]
section
variable {P:Program}{w:World}{K:PySem.W.Frag}{mg:Str→Option Value}{base:Heap}
theorem ok_spoilt81 (hps:∀ (f:Addr) (cdv:Value) (A:Around) (outer:List Env) (s:Shared) (H:Hp) (E:XK),PSs (cxOf CX0 P w K mg base ["_law_columns_here","_law_number","_law_at","_law_name","_law_kind","_law_size","_law_way","_law_pick"] "_law_spoilt" (defScope s_l_spoilt) f cdv A outer s H E).nox (defBody s_l_spoilt) (tSp K))(d:DefAt K mg "_law_spoilt" s_l_spoilt ["_law_columns_here","_law_number"]):FnAt P w K mg base "_law_spoilt" ["_law_columns_here","_law_number"] 1 (spSp K):=by
  refine FnAt.of d sc_l_spoilt (fun vs H Q E h=>?_) (fun f cdv A outer s H vs Q E hr h=>?_)
  · obtain ⟨l,x,us,cs,rfl,_⟩:=h
    rfl
  obtain ⟨l,x,us,cs,rfl,hl,ca,c1,c6,cg,x0,q⟩:=h
  refine ⟨tSp K,hps f cdv A outer s H E,?_⟩
  unfold tSp
  have cl:=ca.len
  refine seq_step fun k hk=>?_
  walk_at "vc"
  refine ⟨_,.inl (SqL.of hl),by omega,hk _ _ (seq_step fun k hk=>?_)⟩
  have a0:=Int.emod_nonneg (x/64) (b:=(us.length:Int)) (by omega)
  have a1:=Int.emod_lt_of_pos (x/64) (b:=(us.length:Int)) (by omega)
  obtain ⟨i,ei,il⟩:∃ i:Nat,x/64%(us.length:Int)=(i:Int)∧i<us.length:=⟨(x/64%(us.length:Int)).toNat,by omega,by omega⟩
  rw [ei]
  obtain ⟨u,eu⟩:∃ u,us[i]?=some u:=⟨_,List.getElem?_eq_getElem il⟩
  obtain ⟨c,ec⟩:∃ c,cs[i]?=some c:=⟨_,List.getElem?_eq_getElem (by omega)⟩
  obtain ⟨a,rfl,ha,sz,nl⟩:=ca.it i u c eu ec
  obtain ⟨⟨n,en,gn⟩,gN⟩:=cg c (List.mem_of_getElem? ec)
  walk_at "vc"
  refine ⟨_,SqL.of hl,_,atI_nat eu,_,rfl,_,.inl (.inl ha),rfl,_,_,rfl,_,_,rfl,_,_,rfl,rfl,hk _ _ (seq_step fun k hk=>?_)⟩
  walk_at "vc"
  refine hk _ _ (seq_step fun k hk=>?_)
  walk_at "vc"
  refine hk _ _ ?_
  have w0:=Int.emod_nonneg x (b:=8) (by decide)
  have w1:=Int.emod_lt_of_pos x (b:=8) (by decide)
  have p0:=Int.emod_nonneg (x/8) (b:=8) (by decide)
  have p1:=Int.emod_lt_of_pos (x/8) (b:=8) (by decide)
  generalize x/8%8=pk at p0 p1
  generalize x%8=way at w0 w1
  have n1:1≤c.1.length:=by
    unfold nameB at gN
    simp only [Bool.and_eq_true,decide_eq_true_eq] at gN
    exact gN.1.1.1
  have ut:∀ j,(us.take j).length≤6:=fun j=>by rw [List.length_take];omega
  have ud:∀ j,(us.drop j).length≤6:=fun j=>by rw [List.length_drop];omega
  have cT:cutV us none (some (i:Int))=us.take i:=cutV_to us (by omega)
  have cD:cutV us (some ((i:Int)+1)) none=us.drop (i+1):=cutV_from (n:=i+1) us (by omega)
  have fin:∀ (nm kd:Str) (sv:V) (H1:Hp),Same H H1→SzOk H1 sv→nm.length≤1000→colsOk (cs.take i++[(nm,kd,sv)]++cs.drop (i+1))=false→tRet (tOp rCat (tOp rCat (tSl (rSlL K) (tVar 0) tNoPart (tPart (tVar 2))) (tLst (tCons (tTup (tCons (tVar 3) (tCons (tVar 4) (tCons (tVar 5) tNil)))) tNil))) (tSl (rSlL K) (tVar 0) (tPart (tOp (rI0 fun i j=>V.int (i+j)) (tVar 2) (tC (V.int 1)))) tNoPart)) { nx:=fun x H'=>Q V.non H',rt:=Q } [some (V.ref l),some (V.int x),some (V.int (i:Int)),some (V.str nm),some (V.str kd),some sv,some (V.int way),some (V.int pk)] H1:=fun nm kd sv H1 s1 z1 z2 bad=>by
    walk_at "vc"
    refine ⟨_,SqL.of (s1 _ _ hl),fun p1 np1=>⟨by decide,fun p2 np2=>⟨by decide,fun p3 np3=>?_⟩⟩⟩
    rw [cT] at *
    have t1:=Same.new (o:=.lst (us.take i)) np1
    have t2:=Same.new (o:=.tup [V.str nm,V.str kd,sv]) np2
    have t3:=Same.new (o:=.lst [V.ref p2]) np3
    refine ⟨_,t3 _ _ (t2 _ _ upd_same),_,upd_same,?_,fun p4 np4=>?_⟩
    · have:=ut i
      rw [sizeLine_eq]
      show _+1≤_
      omega
    have t4:=Same.new (o:=.lst (us.take i++[V.ref p2])) np4
    have t14:=(t1.trans t2).trans (t3.trans t4)
    refine ⟨_,SqL.of (t14 _ _ (s1 _ _ hl)),fun p5 np5=>?_⟩
    rw [cD] at *
    have t5:=Same.new (o:=.lst (us.drop (i+1))) np5
    refine ⟨_,t5 _ _ upd_same,_,upd_same,?_,fun p6 np6=>?_⟩
    · have:=ut i
      have:=ud (i+1)
      rw [List.length_append,sizeLine_eq]
      show _+1+_≤_
      omega
    have t6:=Same.new (o:=.lst (us.take i++[V.ref p2]++us.drop (i+1))) np6
    have t25:=(t3.trans t4).trans (t5.trans t6)
    have tt:=s1.trans (t14.trans (t5.trans t6))
    refine q p6 _ _ _ tt upd_same ((ca.same tt).cut (c:=(nm,kd,sv)) (t25 _ _ upd_same) (z1.same (t14.trans (t5.trans t6))) z2 i) ?_ bad
    have:=ut i
    have:=ud (i+1)
    rw [List.length_append,List.length_append]
    show _+1+_≤_
    omega
  have mem:∀ c',c'∈cs.take i++[c']++cs.drop (i+1):=fun c'=>List.mem_append_left _ (List.mem_append_right _ List.mem_cons_self)
  have badN:∀ nm kd sv,nameB nm=false→colsOk (cs.take i++[(nm,kd,sv)]++cs.drop (i+1))=false:=fun nm kd sv h=>cols_bad (mem (nm,kd,sv)) (.inl h)
  have badS:∀ nm kd sv,sizeB kd sv=false→colsOk (cs.take i++[(nm,kd,sv)]++cs.drop (i+1))=false:=fun nm kd sv h=>cols_bad (mem (nm,kd,sv)) (.inr h)
  have pkc:pk=0∨pk=1∨pk=2∨pk=3∨pk=4∨pk=5∨pk=6∨pk=7:=by omega
  have wc:way=0∨way=1∨way=2∨way=3∨way=4∨way=5∨way=6∨way=7:=by omega
  rw [en] at sz
  have n8:=name_20' gN
  have sll:=Txt.slice_le c.1 (some 1) none
  have L1:c.1.length+(Str.ofString "abcdefgh").length≤sizeLine:=small5 (by rw [show (Str.ofString "abcdefgh").length=8 by decide +kernel];omega)
  have L2:∀ t:Str,t.length=1→(Txt.slice c.1 (some 1) none).length+t.length≤sizeLine:=fun t h=>small5 (by omega)
  have la:∀ a t:Str,(a++t).length=a.length+t.length:=fun a t=>by
    show (a.cps++t.cps).size=_
    exact Array.size_append
  have nmL:∃ nm,atI [V.str (Str.ofString ""),V.str (c.1++Str.ofString "abcdefgh"),V.str (Txt.slice c.1 (some 1) none++Str.ofString "A"),V.str (Txt.slice c.1 (some 1) none++Str.ofString " "),V.str (Txt.slice c.1 (some 1) none++Str.ofString "1"),V.str (Str.ofString "from"),V.str (Str.ofString "none"),V.str (Str.ofString "is")] pk=some (.str nm)∧nameB nm=false∧nm.length≤1000:=by
    rcases pkc with rfl | rfl | rfl | rfl | rfl | rfl | rfl | rfl
    · exact ⟨_,atI_nat (j:=0) rfl,by decide +kernel,by decide⟩
    · exact ⟨_,atI_nat (j:=1) rfl,name_long n1 (by decide +kernel),by rw [la,show (Str.ofString "abcdefgh").length=8 by decide +kernel];omega⟩
    · exact ⟨_,atI_nat (j:=2) rfl,name_odd (by decide +kernel),by rw [la,show (Str.ofString "A").length=1 by decide +kernel];omega⟩
    · exact ⟨_,atI_nat (j:=3) rfl,name_odd (by decide +kernel),by rw [la,show (Str.ofString " ").length=1 by decide +kernel];omega⟩
    · exact ⟨_,atI_nat (j:=4) rfl,name_odd (by decide +kernel),by rw [la,show (Str.ofString "1").length=1 by decide +kernel];omega⟩
    · exact ⟨_,atI_nat (j:=5) rfl,by decide +kernel,by decide⟩
    · exact ⟨_,atI_nat (j:=6) rfl,by decide +kernel,by decide⟩
    · exact ⟨_,atI_nat (j:=7) rfl,by decide +kernel,by decide⟩
  have pk2:pk%2=0∨pk%2=1:=by omega
  have kdL:∃ kd,atI [V.str (Str.ofString "value"),V.str (Str.ofString "bit"),V.str (Str.ofString ""),V.str (Str.ofString "Bits"),V.str (Str.ofString "VALUES"),V.str (Str.ofString "values "),V.str (Str.ofString "list"),V.str (Str.ofString "runs")] pk=some (.str kd)∧∀ v,sizeB kd v=false:=by
    have kb:∀ kd:Str,kd≠valuesS→kd≠bitsS→∀ v,sizeB kd v=false:=fun kd a b v=>by
      unfold sizeB
      cases v<;>first | rfl | (dsimp only;rw [if_neg a,decide_eq_false b,Bool.false_and])
    rcases pkc with rfl | rfl | rfl | rfl | rfl | rfl | rfl | rfl
    · exact ⟨_,atI_nat (j:=0) rfl,kb _ (by decide +kernel) (by decide +kernel)⟩
    · exact ⟨_,atI_nat (j:=1) rfl,kb _ (by decide +kernel) (by decide +kernel)⟩
    · exact ⟨_,atI_nat (j:=2) rfl,kb _ (by decide +kernel) (by decide +kernel)⟩
    · exact ⟨_,atI_nat (j:=3) rfl,kb _ (by decide +kernel) (by decide +kernel)⟩
    · exact ⟨_,atI_nat (j:=4) rfl,kb _ (by decide +kernel) (by decide +kernel)⟩
    · exact ⟨_,atI_nat (j:=5) rfl,kb _ (by decide +kernel) (by decide +kernel)⟩
    · exact ⟨_,atI_nat (j:=6) rfl,kb _ (by decide +kernel) (by decide +kernel)⟩
    · exact ⟨_,atI_nat (j:=7) rfl,kb _ (by decide +kernel) (by decide +kernel)⟩
  obtain ⟨j,jl,ej,ne⟩:∃ j,j<us.length∧atI us ((i:Int)-1)=us[j]?∧(us.length≠1→j≠i):=by
    cases i with
    | zero =>
      refine ⟨us.length-1,by omega,?_,fun h=>by omega⟩
      unfold atI ixN
      rw [if_neg (by decide),if_pos (by omega)]
      show us[_]?=_
      congr 1
      omega
    | succ i' =>
      refine ⟨i',by omega,?_,fun _=>by omega⟩
      rw [show ((i'+1:Nat):Int)-1=(i':Int) by omega,List.getElem?_eq_getElem (by omega)]
      exact atI_nat (List.getElem?_eq_getElem (by omega))
  rcases wc with rfl | rfl | rfl | rfl | rfl | rfl | rfl | rfl
  · refine seq_step fun k hk=>?_
    walk_at "vc"
    refine ⟨us,SqL.of hl,fun p1 np1=>⟨by decide,fun p2 np2=>⟨by decide,fun p3 np3=>?_⟩⟩⟩
    have t1:=Same.new (o:=.lst (cutV us none (some 0))) np1
    have t2:=Same.new (o:=.tup [V.str (Str.ofString "zzzzzzzz"),V.str (Str.ofString "bits"),V.int 1]) np2
    have t3:=Same.new (o:=.lst [V.ref p2]) np3
    have t13:=(t1.trans t2).trans t3
    refine ⟨us,.inl (SqL.of (t13 _ _ hl)),_,upd_same,by omega,by omega,?_,fun p4 np4=>?_⟩
    · rw [sizeLine_eq]
      show 1*_≤_
      omega
    have e7:(7-(us.length:Int)).toNat=7-us.length:=by omega
    rw [e7] at *
    have t4:=Same.new (o:=.lst (List.replicate (7-us.length) [V.ref p2]).flatten) np4
    have t14:=t13.trans t4
    refine ⟨_,t14 _ _ hl,_,upd_same,?_,fun p5 np5=>⟨by decide,fun p6 np6=>?_⟩⟩
    · rw [len_rep,sizeLine_eq]
      show _+_*1≤_
      omega
    have t5:=Same.new (o:=.lst (us++(List.replicate (7-us.length) [V.ref p2]).flatten)) np5
    have t6:=Same.new (o:=.lst [V.ref p1,V.ref p5]) np6
    have t16:=t14.trans (t5.trans t6)
    have g0:=Int.emod_nonneg pk (b:=2) (by decide)
    have g1:=Int.emod_lt_of_pos pk (b:=2) (by decide)
    have gc:pk%2=0∨pk%2=1:=by omega
    refine ⟨_,SqL.of upd_same,?_⟩
    rcases gc with e | e
    · rw [e]
      refine ⟨_,atI_nat (j:=0) rfl,q p1 [] [] _ t16 ?_ ⟨rfl,fun i u c e=>by cases e⟩ (by decide) rfl⟩
      have z:cutV us none (some 0)=[]:=cutV_to (n:=0) us (by omega)
      rw [z] at *
      exact (((t2.trans t3).trans t4).trans (t5.trans t6)) _ _ upd_same
    · rw [e]
      refine ⟨_,atI_nat (j:=1) rfl,q p5 _ (cs++List.replicate (7-us.length) (Str.ofString "zzzzzzzz",bitsS,V.int 1)) _ t16 (t6 _ _ upd_same) ⟨?_,fun j u c' e1 e2=>?_⟩ ?_ ?_⟩
      · rw [List.length_append,List.length_append,len_rep,List.length_replicate,cl]
        show _+_*1=_
        omega
      · by_cases z:j<us.length
        · rw [List.getElem?_append_left z] at e1
          rw [List.getElem?_append_left (by omega)] at e2
          exact (ca.same t16).it j u c' e1 e2
        · rw [List.getElem?_append_right (by omega)] at e1
          rw [List.getElem?_append_right (by omega)] at e2
          have m1:=List.mem_of_getElem? e1
          have m2:=(List.mem_replicate.mp (List.mem_of_getElem? e2)).2
          rw [List.mem_flatten] at m1
          obtain ⟨l0,hl0,hu⟩:=m1
          rw [(List.mem_replicate.mp hl0).2] at hu
          rw [List.mem_singleton.mp hu,m2]
          exact ⟨p2,rfl,((t3.trans t4).trans (t5.trans t6)) _ _ upd_same,trivial,by decide⟩
      · rw [List.length_append,len_rep]
        show _+_*1≤_
        omega
      · unfold colsOk
        rw [decide_eq_false,Bool.false_and]
        rw [List.length_append,List.length_replicate]
        omega
  · refine seq_step fun k hk=>?_
    walk_at "vc"
    refine hk _ _ (seq_step fun k hk=>?_)
    walk_at "vc"
    refine ⟨_,_,rfl,rfl,L1,small5 (by omega),_,_,rfl,rfl,L2 _ rfl,small5 (by omega),_,_,rfl,rfl,L2 _ rfl,small5 (by omega),_,_,rfl,rfl,L2 _ rfl,by decide,fun p1 np1=>⟨_,SqL.of upd_same,?_⟩⟩
    have t1:=Same.new (o:=.lst [V.str (Str.ofString ""),V.str (c.1++Str.ofString "abcdefgh"),V.str (Txt.slice c.1 (some 1) none++Str.ofString "A"),V.str (Txt.slice c.1 (some 1) none++Str.ofString " "),V.str (Txt.slice c.1 (some 1) none++Str.ofString "1"),V.str (Str.ofString "from"),V.str (Str.ofString "none"),V.str (Str.ofString "is")]) np1
    obtain ⟨nm,e1,e2,e3⟩:=nmL
    refine ⟨_,e1,hk _ _ ?_⟩
    refine seq_step fun k hk=>?_
    walk_at "vc"
    refine hk _ _ ?_
    refine seq_step fun k hk=>?_
    walk_at "vc"
    refine hk _ _ ?_
    refine seq_step fun k hk=>?_
    walk_at "vc"
    refine hk _ _ ?_
    refine seq_step fun k hk=>?_
    walk_at "vc"
    refine hk _ _ ?_
    refine seq_step fun k hk=>?_
    walk_at "vc"
    refine hk _ _ ?_
    exact fin nm _ _ _ t1 (by rw [en];exact trivial) e3 (badN _ _ _ e2)
  · refine seq_step fun k hk=>?_
    walk_at "vc"
    refine hk _ _ (seq_step fun k hk=>?_)
    walk_at "vc"
    refine ⟨_,_,rfl,rfl,L1,small5 (by omega),_,_,rfl,rfl,L2 _ rfl,small5 (by omega),_,_,rfl,rfl,L2 _ rfl,small5 (by omega),_,_,rfl,rfl,L2 _ rfl,by decide,fun p1 np1=>⟨_,SqL.of upd_same,?_⟩⟩
    have t1:=Same.new (o:=.lst [V.str (Str.ofString ""),V.str (c.1++Str.ofString "abcdefgh"),V.str (Txt.slice c.1 (some 1) none++Str.ofString "A"),V.str (Txt.slice c.1 (some 1) none++Str.ofString " "),V.str (Txt.slice c.1 (some 1) none++Str.ofString "1"),V.str (Str.ofString "from"),V.str (Str.ofString "none"),V.str (Str.ofString "is")]) np1
    obtain ⟨nm,e1,e2,e3⟩:=nmL
    refine ⟨_,e1,hk _ _ ?_⟩
    refine seq_step fun k hk=>?_
    walk_at "vc"
    refine hk _ _ ?_
    refine seq_step fun k hk=>?_
    walk_at "vc"
    refine hk _ _ ?_
    refine seq_step fun k hk=>?_
    walk_at "vc"
    refine hk _ _ ?_
    refine seq_step fun k hk=>?_
    walk_at "vc"
    refine hk _ _ ?_
    refine seq_step fun k hk=>?_
    walk_at "vc"
    refine hk _ _ ?_
    exact fin nm _ _ _ t1 (by rw [en];exact trivial) e3 (badN _ _ _ e2)
  · refine seq_step fun k hk=>?_
    walk_at "vc"
    refine hk _ _ ?_
    refine seq_step fun k hk=>?_
    walk_at "vc"
    refine hk _ _ ?_
    refine seq_step fun k hk=>?_
    walk_at "vc"
    obtain ⟨u',eu'⟩:∃ u',us[j]?=some u':=⟨_,List.getElem?_eq_getElem jl⟩
    obtain ⟨c',ec'⟩:∃ c',cs[j]?=some c':=⟨_,List.getElem?_eq_getElem (by omega)⟩
    obtain ⟨a',rfl,ha',sz',nl'⟩:=ca.it j u' c' eu' ec'
    refine ⟨_,SqL.of hl,_,ej.trans eu',_,rfl,_,.inl (.inl ha'),_,atI_nat (j:=0) rfl,hk _ _ (seq_step fun k hk=>?_)⟩
    walk_at "vc"
    refine ⟨_,.inl (SqL.of hl),?_⟩
    by_cases z:us.length=1
    · rw [if_pos (by omega)]
      refine ⟨by decide,fun p1 np1=>⟨_,SqL.of upd_same,?_⟩⟩
      have t1:=Same.new (o:=.lst [V.str (Str.ofString "value"),V.str (Str.ofString "bit"),V.str (Str.ofString ""),V.str (Str.ofString "Bits"),V.str (Str.ofString "VALUES"),V.str (Str.ofString "values "),V.str (Str.ofString "list"),V.str (Str.ofString "runs")]) np1
      obtain ⟨kd,e1,e2⟩:=kdL
      refine ⟨_,e1,hk _ _ ?_⟩
      refine seq_step fun k hk=>?_
      walk_at "vc"
      refine hk _ _ ?_
      refine seq_step fun k hk=>?_
      walk_at "vc"
      refine hk _ _ ?_
      refine seq_step fun k hk=>?_
      walk_at "vc"
      refine hk _ _ ?_
      exact fin c'.1 kd _ _ t1 (by rw [en];exact trivial) nl' (badS _ _ _ (e2 _))
    · rw [if_neg (by omega)]
      refine hk _ _ ?_
      refine seq_step fun k hk=>?_
      walk_at "vc"
      refine hk _ _ ?_
      refine seq_step fun k hk=>?_
      walk_at "vc"
      refine hk _ _ ?_
      refine seq_step fun k hk=>?_
      walk_at "vc"
      refine hk _ _ ?_
      refine fin c'.1 c.2.1 _ _ (Same.refl _) (by rw [en];exact trivial) nl' (cols_dup fun nd=>?_)
      rw [List.map_append,List.map_append] at nd
      have jn:=ne z
      by_cases w:j<i
      · have m1:c'∈cs.take i:=List.mem_of_getElem? (i:=j) (by rw [List.getElem?_take,if_pos w];exact ec')
        have nd1:=(List.nodup_append.mp (List.nodup_append.mp nd).1).2.2
        exact nd1 c'.1 (List.mem_map.mpr ⟨c',m1,rfl⟩) c'.1 List.mem_cons_self rfl
      · have m1:c'∈cs.drop (i+1):=List.mem_of_getElem? (i:=j-(i+1)) (by rw [List.getElem?_drop,show i+1+(j-(i+1))=j by omega];exact ec')
        have nd1:=(List.nodup_append.mp nd).2.2
        exact nd1 c'.1 (List.mem_append_right _ List.mem_cons_self) c'.1 (List.mem_map.mpr ⟨c',m1,rfl⟩) rfl
  · refine seq_step fun k hk=>?_
    walk_at "vc"
    refine hk _ _ ?_
    refine seq_step fun k hk=>?_
    walk_at "vc"
    refine hk _ _ ?_
    refine seq_step fun k hk=>?_
    walk_at "vc"
    refine hk _ _ ?_
    refine seq_step fun k hk=>?_
    walk_at "vc"
    refine ⟨by decide,fun p1 np1=>⟨_,SqL.of upd_same,?_⟩⟩
    have t1:=Same.new (o:=.lst [V.str (Str.ofString "value"),V.str (Str.ofString "bit"),V.str (Str.ofString ""),V.str (Str.ofString "Bits"),V.str (Str.ofString "VALUES"),V.str (Str.ofString "values "),V.str (Str.ofString "list"),V.str (Str.ofString "runs")]) np1
    obtain ⟨kd,e1,e2⟩:=kdL
    refine ⟨_,e1,hk _ _ ?_⟩
    refine seq_step fun k hk=>?_
    walk_at "vc"
    refine hk _ _ ?_
    refine seq_step fun k hk=>?_
    walk_at "vc"
    refine hk _ _ ?_
    refine seq_step fun k hk=>?_
    walk_at "vc"
    refine hk _ _ ?_
    exact fin c.1 kd _ _ t1 (by rw [en];exact trivial) nl (badS _ _ _ (e2 _))
  · refine seq_step fun k hk=>?_
    walk_at "vc"
    refine hk _ _ ?_
    refine seq_step fun k hk=>?_
    walk_at "vc"
    refine hk _ _ ?_
    refine seq_step fun k hk=>?_
    walk_at "vc"
    refine hk _ _ ?_
    refine seq_step fun k hk=>?_
    walk_at "vc"
    refine hk _ _ ?_
    refine seq_step fun k hk=>?_
    walk_at "vc"
    refine ⟨by decide,fun p1 np1=>⟨_,SqL.of upd_same,?_⟩⟩
    have t1:=Same.new (o:=.lst [V.int (-1),V.int 0,V.int (-1),V.int (-40)]) np1
    obtain ⟨v,e1,e2⟩:∃ v:Int,atI [V.int (-1),V.int 0,V.int (-1),V.int (-40)] ((2*if c.2.1=Str.ofString "values" then 1 else 0)+pk%2)=some (.int v)∧sizeB c.2.1 (.int v)=false:=by
      rcases gn with ⟨k1,_⟩ | ⟨k1,_⟩
      · rw [if_pos (show c.2.1=Str.ofString "values" from k1),k1]
        rcases pk2 with e | e<;>rw [e]
        · exact ⟨_,atI_nat (j:=2) rfl,by decide +kernel⟩
        · exact ⟨_,atI_nat (j:=3) rfl,by decide +kernel⟩
      · rw [if_neg (by rw [k1];decide +kernel),k1]
        rcases pk2 with e | e<;>rw [e]
        · exact ⟨_,atI_nat (j:=0) rfl,by decide +kernel⟩
        · exact ⟨_,atI_nat (j:=1) rfl,by decide +kernel⟩
    refine ⟨_,e1,hk _ _ ?_⟩
    refine seq_step fun k hk=>?_
    walk_at "vc"
    refine hk _ _ ?_
    refine seq_step fun k hk=>?_
    walk_at "vc"
    refine hk _ _ ?_
    exact fin c.1 c.2.1 _ _ t1 trivial nl (badS _ _ _ e2)
  · refine seq_step fun k hk=>?_
    walk_at "vc"
    refine hk _ _ ?_
    refine seq_step fun k hk=>?_
    walk_at "vc"
    refine hk _ _ ?_
    refine seq_step fun k hk=>?_
    walk_at "vc"
    refine hk _ _ ?_
    refine seq_step fun k hk=>?_
    walk_at "vc"
    refine hk _ _ ?_
    refine seq_step fun k hk=>?_
    walk_at "vc"
    refine hk _ _ ?_
    refine seq_step fun k hk=>?_
    walk_at "vc"
    refine ⟨by decide,by decide,fun p1 np1=>⟨_,SqL.of upd_same,?_⟩⟩
    have t1:=Same.new (o:=.lst [V.int 41,V.int 999,V.int 1000,V.int 1000000000000000000000000000000]) np1
    obtain ⟨v,e1,e2⟩:∃ v:Int,atI [V.int 41,V.int 999,V.int 1000,V.int 1000000000000000000000000000000] ((2*if c.2.1=Str.ofString "values" then 1 else 0)+pk%2)=some (.int v)∧sizeB c.2.1 (.int v)=false:=by
      rcases gn with ⟨k1,_⟩ | ⟨k1,_⟩
      · rw [if_pos (show c.2.1=Str.ofString "values" from k1),k1]
        rcases pk2 with e | e<;>rw [e]
        · exact ⟨_,atI_nat (j:=2) rfl,by decide +kernel⟩
        · exact ⟨_,atI_nat (j:=3) rfl,by decide +kernel⟩
      · rw [if_neg (by rw [k1];decide +kernel),k1]
        rcases pk2 with e | e<;>rw [e]
        · exact ⟨_,atI_nat (j:=0) rfl,by decide +kernel⟩
        · exact ⟨_,atI_nat (j:=1) rfl,by decide +kernel⟩
    refine ⟨_,e1,hk _ _ ?_⟩
    refine seq_step fun k hk=>?_
    walk_at "vc"
    refine hk _ _ ?_
    exact fin c.1 c.2.1 _ _ t1 trivial nl (badS _ _ _ e2)
  · refine seq_step fun k hk=>?_
    walk_at "vc"
    refine hk _ _ ?_
    refine seq_step fun k hk=>?_
    walk_at "vc"
    refine hk _ _ ?_
    refine seq_step fun k hk=>?_
    walk_at "vc"
    refine hk _ _ ?_
    refine seq_step fun k hk=>?_
    walk_at "vc"
    refine hk _ _ ?_
    refine seq_step fun k hk=>?_
    walk_at "vc"
    refine hk _ _ ?_
    refine seq_step fun k hk=>?_
    walk_at "vc"
    refine hk _ _ ?_
    refine seq_step fun k hk=>?_
    walk_at "vc"
    refine ⟨by decide,fun p1 np1=>⟨by decide,fun p2 np2=>⟨by decide,fun p3 np3=>⟨_,SqL.of upd_same,?_⟩⟩⟩⟩
    have t1:=Same.new (o:=.tup [V.int 1]) np1
    have t2:=Same.new (o:=.lst [V.int 1]) np2
    have t3:=Same.new (o:=.lst [V.bl true,V.bl false,V.non,V.str (Str.ofString "1"),V.str (Str.ofString ""),V.ref p1,V.ref p2,V.str (Str.ofString "bits")]) np3
    have tt:=(t1.trans t2).trans t3
    have go:∀ v:V,isI v=false→SzOk (upd (upd (upd H p1 (.tup [V.int 1])) p2 (.lst [V.int 1])) p3 (.lst [V.bl true,V.bl false,V.non,V.str (Str.ofString "1"),V.str (Str.ofString ""),V.ref p1,V.ref p2,V.str (Str.ofString "bits")])) v→k [some (V.ref l),some (V.int x),some (V.int (i:Int)),some (V.str c.1),some (V.str c.2.1),some v,some (V.int 7),some (V.int pk)] (upd (upd (upd H p1 (.tup [V.int 1])) p2 (.lst [V.int 1])) p3 (.lst [V.bl true,V.bl false,V.non,V.str (Str.ofString "1"),V.str (Str.ofString ""),V.ref p1,V.ref p2,V.str (Str.ofString "bits")])):=fun v iv sv=>by
      refine hk _ _ ?_
      exact fin c.1 c.2.1 v _ tt sv nl (badS _ _ _ (by unfold sizeB;cases v<;>first | rfl | cases iv))
    rcases pkc with rfl | rfl | rfl | rfl | rfl | rfl | rfl | rfl
    · exact ⟨_,atI_nat (j:=0) rfl,go _ rfl trivial⟩
    · exact ⟨_,atI_nat (j:=1) rfl,go _ rfl trivial⟩
    · exact ⟨_,atI_nat (j:=2) rfl,go _ rfl trivial⟩
    · exact ⟨_,atI_nat (j:=3) rfl,go _ rfl trivial⟩
    · exact ⟨_,atI_nat (j:=4) rfl,go _ rfl trivial⟩
    · exact ⟨_,atI_nat (j:=5) rfl,go _ rfl (.inl ⟨_,(t2.trans t3) _ _ upd_same⟩)⟩
    · exact ⟨_,atI_nat (j:=6) rfl,go _ rfl (.inr ⟨_,t3 _ _ upd_same⟩)⟩
    · exact ⟨_,atI_nat (j:=7) rfl,go _ rfl trivial⟩
end
def spLaw (K:PySem.W.Frag):Sp:=fun vs H Q _=>∃ (a:Addr) (ns:List Int),vs=[.ref a]∧SqL K H a (ns.map V.int)∧ns.length≤63∧∀ H',Q (.bl true) H'
theorem TabAt.keepL {CM CV CB CT:Addr}{H H':Hp}{x:Addr}{cs:List Cl}{us:List V}(hn:us≠[])(k:∀ b o,H b=some o→o≠.lst us→H' b=some o)(h:TabAt CM CV CB CT H x cs):TabAt CM CV CB CT H' x cs:=by
  have kl:∀ {a:Addr},H a=some (.lst [])→H' a=some (.lst []):=fun e=>k _ _ e (fun z=>hn (by injection z with z;exact z.symm))
  have km:∀ {p:Addr},MkE CM H p→MkE CM H' p:=fun ⟨d,a,b,c,g1,g2,g3,g4⟩=>⟨d,a,b,c,k _ _ g1 (fun z=>by cases z),kl g2,kl g3,kl g4⟩
  have kc:∀ {C:Addr} {f:Str} {v:V} {y:Addr},ColE CM C f v H y→ColE CM C f v H' y:=fun ⟨dx,m,d1,d2,h1,h2,h3,h4⟩=>⟨dx,m,d1,d2,k _ _ h1 (fun z=>by cases z),km h2,k _ _ h3 (fun z=>by cases z),k _ _ h4 (fun z=>by cases z)⟩
  obtain ⟨dx,d,kvs,m,h1,h2,h3,h4⟩:=h
  refine ⟨dx,d,kvs,m,k _ _ h1 (fun z=>by cases z),k _ _ h2 (fun z=>by cases z),⟨h3.len,fun i kv c e1 e2=>?_⟩,km h4⟩
  obtain ⟨a,y,b,z⟩:=h3.it i kv c e1 e2
  refine ⟨a,y,b,?_⟩
  unfold ColC at *
  split at z
  · rename_i w
    rw [if_pos w]
    exact kc z
  · rename_i w
    rw [if_neg w]
    exact kc z
structure LwI (σ0:L2.St)(H:Hp)(_i:Nat)(σ:L2.St)(H':Hp):Prop where
  ex:∃ v5 v6,σ=σ0++[v5,v6]
  sm:Same H H'
theorem nd_inj:∀ cs:List Cl,(cs.map (·.1)).Nodup→∀ c∈cs,∀ c'∈cs,c'.1=c.1→c'=c
  | [],_,c,h,_,_,_=>by cases h
  | x::r,nd,c,hc,c',hc',e=>by
    have nd:=List.nodup_cons.mp (show (x.1::r.map (·.1)).Nodup from nd)
    rcases List.mem_cons.mp hc with e1 | hc<;>rcases List.mem_cons.mp hc' with e2 | hc'
    · rw [e1,e2]
    · exact absurd (List.mem_map.mpr ⟨c',hc',by rw [e,e1]⟩) nd.1
    · exact absurd (List.mem_map.mpr ⟨c,hc,by rw [← e,e2]⟩) nd.1
    · exact nd_inj r nd.2 c hc c' hc' e
section
variable {P:Program}{w:World}{K:PySem.W.Frag}{mg:Str→Option Value}{base:Heap}{CM CV CB CX CT CD CE:Addr}
theorem ok_law (B:Blt mg)
    (h_l_cell_at:FnAt P w K mg base "_law_cell_at" ["_law_script","_law_k"] 1 (spCell K)) (h_l_whole:FnAt P w K mg base "_law_whole" ["_law_found"] 1 spWhole) (h_l_mixed:FnAt P w K mg base "_law_mixed" ["_law_cell","_law_k"] 1 spMixed) (h_l_columns:FnAt P w K mg base "_law_columns" ["_law_cell","_law_many"] 3 spCs) (h_l_spoilt:FnAt P w K mg base "_law_spoilt" ["_law_columns_here","_law_number"] 1 (spSp K)) (h_l_refused:FnAt P w K mg base "_law_refused" ["_law_columns_here"] 12 (spRef K)) (h_l_top:FnAt P w K mg base "_law_top" ["_law_column"] 1 spTop) (h_Table:MakeR P w K mg base "Table" CT ["self","columns"] 7 (spTI CM CV CB CX CT K))
    (h_names:MethAt P w K mg base CT "names" ["self"] 1 (spTNames CM CV CB CT)) (h_rows:MethAt P w K mg base CT "rows" ["self"] 4 (spTRows CM CV CB CT)) (h_told:MethAt P w K mg base CT "told" ["self"] 9 (spTTold CM CV CB CT)) (h_colof:MethAt P w K mg base CT "column_of" ["self","name"] 9 (spColOf CM CV CB CT)) (h_topV:MethAt P w K mg base CV "top" ["self"] 1 (fun vs H Q _=>∃ (x:Addr) (n:Int),vs=[.ref x]∧ColE CM CV "greatest" (.int n) H x∧Q (.int n) H)) (h_topB:MethAt P w K mg base CB "top" ["self"] 1 (fun vs H Q _=>∃ (x:Addr) (n:Int),vs=[.ref x]∧ColE CM CB "width" (.int n) H x∧0≤n∧n≤40∧Q (.int (2^n.toNat-1)) H)) (h_many:MethAt P w K mg base CM "many" ["self"] 1 (spMMany CM))
    {f:Addr} {fd:FuncData} (F:Fun K "law" "law" s_law f fd):FnOk P w K mg base CX0 97 f fd ["_law_script"] (spLaw K):=by
  refine F.ok sc_law (fun vs H Q E h=>?_) (fun cdv A outer s H vs Q E hr h=>?_)
  · obtain ⟨a,ns,rfl,_⟩:=h
    rfl
  obtain ⟨x,ns,rfl,hS,h63,q⟩:=h
  refine ⟨_,(pss_cons (ps_set (i:=1) sc_law.nd rfl (by walk_at "l") (pe_callF h_l_cell_at (hr.mono (by decide)) rfl (pa_cons (pv 0) (pa_cons pe_int pa_nil))))
      (pss_cons (ps_set (i:=2) sc_law.nd rfl (by walk_at "l") (pe_callF h_l_columns (hr.mono (by decide)) rfl (pa_cons (pv 1) (pa_cons (pe_op op_add pe_int (pe_op op_mod (pe_callF h_l_mixed (hr.mono (by decide)) rfl (pa_cons (pv 1) (pa_cons pe_int pa_nil))) pe_int)) pa_nil))))
      (pss_cons (ps_if (pt_not (pt_val (pe_callF h_l_refused (hr.mono (by decide)) rfl (pa_cons (pe_callF h_l_spoilt (hr.mono (by decide)) rfl (pa_cons (pv 2) (pa_cons (pe_callF h_l_mixed (hr.mono (by decide)) rfl (pa_cons (pe_callF h_l_cell_at (hr.mono (by decide)) rfl (pa_cons (pv 0) (pa_cons pe_int pa_nil))) (pa_cons pe_int pa_nil))) pa_nil))) pa_nil)))) (pss_one (ps_ret pe_bl)) pss_nil)
      (pss_cons (ps_set (i:=3) sc_law.nd rfl (by walk_at "l") (pe_callTy (call_listK K) rfl B.lst boot_list (pa_cons (pv 2) pa_nil)))
      (pss_cons (ps_set (i:=4) sc_law.nd rfl (by walk_at "l") (pe_makeF h_Table.calm (hr.mono (by decide)) rfl (pa_cons (pv 3) pa_nil)))
      (pss_cons (ps_if (pt_cmpR (op_neT K (hu64 hr)) (pv 3) (pv 2) (nomark _)) (pss_one (ps_ret pe_bl)) pss_nil)
      (pss_cons (ps_expr (pe_bm0K K PySem.F.plainAttrs_list PySem.F.slot_list_clear PySem.F.type_list_clear mt_clear (pv 3)))
      (pss_cons (ps_if (PW.pt (pw_or (pt_cmpR (op_neT K (hu64 hr)) (pe_meD0 (P:=P) (w:=w) (K:=K) (mg:=mg) (base:=base) 1 (hr.mono (by decide)) (pv 4)) (pe_comp ["_law_column"] [] rfl (pi_listK K (pv 2)) (fun _ _ _ _ _=>pg_name (i:=0) (by show List.Nodup (["_law_column"]:List Str);decide +kernel) rfl (Or.inl rfl)) (fun _ _ _ _ _=>pts_nil) (fun _ _ _ _ _=>(pe_ix (ix_tupK K) (pv 0) pe_int (fun _ _=>rfl))) trivial gOwn_name) (nomark _)) (pw_or1 (pt_cmpR (op_neT K (hu64 hr)) (pe_meD0 (P:=P) (w:=w) (K:=K) (mg:=mg) (base:=base) 9 (hr.mono (by decide)) (pv 4)) (pe_lst (pa_cons (pe_tup (pa_cons pe_str (pa_cons pe_int (pa_cons (pe_lst pa_nil) pa_nil)))) pa_nil)) (nomark _))))) (pss_one (ps_ret pe_bl)) pss_nil)
      (pss_cons (ps_for PassesOwn.never rfl (pi_listK K (pv 2)) (pg_name (i:=5) sc_law.nd rfl (by walk_at "l")) (pss_cons (ps_set (i:=6) sc_law.nd rfl (by walk_at "l") (pe_meD0 (P:=P) (w:=w) (K:=K) (mg:=mg) (base:=base) 1 (hr.mono (by decide)) (pe_meD (P:=P) (w:=w) (K:=K) (mg:=mg) (base:=base) 9 (hr.mono (by decide)) (pv 4) (pa_cons (pe_ix (ix_tupK K) (pv 5) pe_int (fun _ _=>rfl)) pa_nil))))
      (pss_one (ps_if (PW.pt (pw_or (pt_not (pt_val (pe_callF h_l_whole (hr.mono (by decide)) rfl (pa_cons (pv 6) pa_nil)))) (pw_or1 (pt_cmpR op_ne (pv 6) (pe_callF h_l_top (hr.mono (by decide)) rfl (pa_cons (pv 5) pa_nil)) (nomark _))))) (pss_one (ps_ret pe_bl)) pss_nil))))
      (pss_cons (ps_expr (pe_bm0K K PySem.F.plainAttrs_list PySem.F.slot_list_clear PySem.F.type_list_clear mt_clear (pe_meD0 (P:=P) (w:=w) (K:=K) (mg:=mg) (base:=base) 1 (hr.mono (by decide)) (pv 4))))
      (pss_one (ps_ret (pe_and (pe_cmpR op_eq (pe_callB (call_lenK K) rfl B.len PySem.boot_len (pa_cons (pe_meD0 (P:=P) (w:=w) (K:=K) (mg:=mg) (base:=base) 1 (hr.mono (by decide)) (pv 4)) pa_nil)) (pe_callB (call_lenK K) rfl B.len PySem.boot_len (pa_cons (pv 2) pa_nil)) (nomark _)) (pe_one (pe_cmpR op_eq (pe_meD0 (P:=P) (w:=w) (K:=K) (mg:=mg) (base:=base) 1 (hr.mono (by decide)) (pe_meD0 (P:=P) (w:=w) (K:=K) (mg:=mg) (base:=base) 4 (hr.mono (by decide)) (pv 4))) pe_int (nomark _)))))))))))))))),?_⟩
  refine seq_step fun k hk=>?_
  walk_at "vc"
  refine ⟨x,ns,0,rfl,hS,hk _ _ (seq_step fun k hk=>?_)⟩
  have mn:=Int.emod_nonneg (mixI (ns.getD 0 0) 899) (b:=6) (by decide)
  have mh:=Int.emod_lt_of_pos (mixI (ns.getD 0 0) 899) (b:=6) (by decide)
  obtain ⟨m,em,m1,m6⟩:∃ m:Nat,1+mixI (ns.getD 0 0) 899%6=(m:Int)∧1≤m∧m≤6:=⟨(1+mixI (ns.getD 0 0) 899%6).toNat,by omega,by omega,by omega⟩
  walk_at "vc"
  refine ⟨_,_,rfl,_,rfl,?_⟩
  rw [em]
  refine ⟨_,m,rfl,m1,m6,fun p us cs H1 s1 hp ca cl cg nd=>hk _ _ (seq_step fun k hk=>?_)⟩
  have ul:us.length=m:=ca.len.trans cl
  walk_at "vc"
  refine ⟨x,ns,1,rfl,s1.seq hS,_,_,rfl,p,_,us,cs,rfl,hp,ca,by omega,by omega,cg,Int.emod_nonneg _ (by decide),fun p2 us2 cs2 H2 s2 hp2 ca2 ul2 no=>?_⟩
  refine ⟨p2,us2,cs2,rfl,hp2,ca2,ul2,no,fun H3 s3=>⟨_,rfl,?_⟩⟩
  rw [if_neg Bool.noConfusion]
  have s23:=s2.trans s3
  have hp3:=s23 _ _ hp
  have ca3:=ca.same s23
  clear s2 s3 hp2 ca2 ul2 no s23
  refine hk _ _ (seq_step fun k hk=>?_)
  walk_at "vc"
  refine ⟨_,.inl (SqL.of hp3),fun ph nph=>hk _ _ (seq_step fun k hk=>?_)⟩
  have t4:=Same.new (o:=.lst us) nph
  have hp4:=t4 _ _ hp3
  have ca4:=ca3.same t4
  have ph4:=upd_same (H:=H3) (a:=ph) (o:=.lst us)
  have php:ph≠p:=Ne.symm (ne_of_none hp3 nph)
  generalize upd H3 ph (.lst us)=H4 at hp4 ca4 ph4
  have gl : ∀ (cs:List Cl) (seen:List Str),(∀ c∈cs,GoodC c∧nameB c.1=true)→(cs.map (·.1)).Nodup→(∀ c∈cs,c.1∉seen)→goodL seen cs=true:=fun cs=>by
    induction cs with
    | nil=>exact fun _ _ _ _=>rfl
    | cons c r ih =>
      intro seen g nd ns
      have nd:=List.nodup_cons.mp (show (c.1::r.map (·.1)).Nodup from nd)
      have sz:sizeB c.2.1 c.2.2=true:=by
        obtain ⟨⟨i,e,h⟩,_⟩:=g c List.mem_cons_self
        rw [e]
        unfold sizeB
        dsimp only
        rcases h with ⟨k,a,b⟩ | ⟨k,a,b⟩
        · rw [if_pos k]
          exact decide_eq_true ⟨a,b⟩
        · rw [if_neg (by rw [k];decide +kernel),decide_eq_true k]
          exact decide_eq_true ⟨a,b⟩
      show (nameB c.1&&!decide (c.1∈seen)&&sizeB c.2.1 c.2.2&&goodL (seen++[c.1]) r)=true
      rw [(g c List.mem_cons_self).2,decide_eq_false (ns c List.mem_cons_self),sz,ih (seen++[c.1]) (fun c' h=>g c' (List.mem_cons_of_mem _ h)) nd.2 (fun c' h z=>?_)]
      · rfl
      · rcases List.mem_append.mp z with z | z
        · exact ns c' (List.mem_cons_of_mem _ h) z
        · exact nd.1 (by rw [← List.mem_singleton.mp z];exact List.mem_map.mpr ⟨c',h,rfl⟩)
  have ok:colsOk cs=true:=by
    unfold colsOk
    rw [decide_eq_true (by omega),gl cs [] cg nd (fun _ _ z=>by cases z)]
    rfl
  walk_at "vc"
  refine fun t dt nt ndt hne=>?_
  have s5:Same H4 (upd (upd H4 dt (.own t)) t (.ins CT dt [])):=(Same.new ndt).trans (Same.new (by rw [upd_ne (Ne.symm hne)];exact nt))
  refine ⟨t,dt,ph,us,cs,rfl,upd_same,s5.seq (SqL.of ph4),ca4.same s5,by omega,fun _ H5 f5 tb=>⟨rfl,hk _ _ (seq_step fun k hk=>?_)⟩,fun no=>(by rw [ok] at no;cases no)⟩
  have t5:=mk_same nt ndt f5
  have hp5:=t5 _ _ hp4
  have ph5:=t5 _ _ ph4
  have ca5:=ca4.same t5
  clear t5 f5 s5 hp4 ph4 ca4 t4 hp3 ca3
  have tw:Twns K H5 8 us us:=Twns.of rfl fun i a b e1 e2=>by
    cases e1.symm.trans e2
    obtain ⟨c,ec⟩:∃ c,cs[i]?=some c:=⟨_,List.getElem?_eq_getElem (by rw [← ca5.len];exact (List.getElem?_eq_some_iff.mp e1).1)⟩
    obtain ⟨ad,rfl,ha,_⟩:=ca5.it i _ c e1 ec
    obtain ⟨⟨n,en,_⟩,_⟩:=cg c (List.mem_of_getElem? ec)
    rw [en] at ha
    exact .tup (.inl (.inl ha)) (.inl (.inl ha)) (.cons (.str _) (.cons (.str _) (.cons (.int _) .nil)))
  walk_at "vc"
  refine ⟨_,SqL.of ph5,_,SqL.of hp5,.inl ⟨tw,hk _ _ (seq_step fun k hk=>?_)⟩⟩
  walk_at "vc"
  refine ⟨⟨_,SqL.of ph5⟩,_,ph5,hk _ _ (seq_step fun k hk=>?_)⟩
  have un:us≠[]:=fun z=>by rw [z] at ul;have:0=m:=ul;omega
  have k6:∀ b o,H5 b=some o→o≠.lst us→upd H5 ph (.lst []) b=some o:=fun b o e no=>by
    rw [upd_ne (fun z=>by rw [z,ph5] at e;exact no (Option.some.inj e).symm)]
    exact e
  have tb6:=tb.keepL un k6
  have hp6:upd H5 ph (.lst []) p=some (.lst us):=by rw [upd_ne (Ne.symm php)];exact hp5
  have ca6:CsAt (upd H5 ph (.lst [])) us cs:=⟨ca5.len,fun i u c e1 e2=>by
    obtain ⟨a,x,y,z,w⟩:=ca5.it i u c e1 e2
    obtain ⟨⟨n,en,_⟩,_⟩:=cg c (List.mem_of_getElem? e2)
    exact ⟨a,x,k6 _ _ y (fun z=>by cases z),by rw [en];exact trivial,w⟩⟩
  generalize upd H5 ph (.lst [])=H6 at tb6 hp6 ca6
  clear tw k6 ph5 hp5 tb ca5
  obtain ⟨dt6,_,_,_,ht6,_⟩:=id tb6
  walk_at "vc"
  refine ⟨_,_,_,ht6,rfl,_,_,h_names,t,cs,rfl,tb6,fun p7 H7 s7 np7 h7=>⟨⟨_,SqL.of (s7 _ _ hp6)⟩,?_⟩⟩
  refine compA (K:=K) (xs:=us) (fun i y _=>∀ c,cs[i]?=some c→y=.str c.1) (fun _ _ _ _ _ h=>h) (SqL.of (s7 _ _ hp6)) (by omega) (fun i v H8 R hv s8 r8=>?_) (fun D ys H8 hD s8 h8 l8 k8=>?_)
  · have il:i<us.length:=(List.getElem?_eq_some_iff.mp hv).1
    obtain ⟨c,ec⟩:∃ c,cs[i]?=some c:=⟨_,List.getElem?_eq_getElem (by omega)⟩
    obtain ⟨a,rfl,ha,_⟩:=ca6.it i v c hv ec
    walk_at "vc"
    refine ⟨_,.inl (.inl ((s7.trans s8) _ _ ha)),_,atI_nat (j:=0) rfl,r8 _ _ (Same.refl _) fun c' ec'=>?_⟩
    cases ec.symm.trans ec'
    rfl
  · have t8 := s7.trans s8
    have tw:Twns K H8 8 (cs.map fun c=>V.str c.1) ys:=Twns.of (by rw [List.length_map,l8];omega) fun i a b e1 e2=>by
      rw [List.getElem?_map] at e1
      cases ec:cs[i]? with
      | none=>rw [ec] at e1;cases e1
      | some c =>
        rw [ec] at e1
        cases e1
        rw [k8 i b e2 c ec]
        exact .str _
    obtain ⟨dt8,_,_,_,ht8,_⟩:=id (tb6.same t8)
    refine ⟨_,rfl,_,rfl,_,SqL.of (s8 _ _ h7),_,SqL.of h8,.inl ⟨tw,_,_,_,ht8,rfl,_,_,h_told,t,cs,rfl,tb6.same t8,fun p9 a9 z9 H9 s9 h9 ha9 hz9=>?_⟩⟩
    refine ⟨by decide,fun p10 n10=>⟨by decide,fun p11 n11=>⟨by decide,fun p12 n12=>?_⟩⟩⟩
    have u10:=Same.new (o:=.lst []) n10
    have u11:=Same.new (o:=.tup [V.str (Str.ofString ""),V.int 0,V.ref p10]) n11
    have u12:=Same.new (o:=.lst [V.ref p11]) n12
    have u:=(u10.trans u11).trans u12
    refine ⟨_,rfl,_,SqL.of (u _ _ h9),_,SqL.of upd_same,.inl ⟨.cons (.tup (.inl (.inl (u _ _ ha9))) (.inl (.inl (u12 _ _ upd_same))) (.cons (.str _) (.cons (.int _) (.cons (.lst (SqL.of (u _ _ hz9)) (SqL.of ((u11.trans u12) _ _ upd_same)) .nil) .nil)))) .nil,hk _ _ (seq_step fun k hk=>?_)⟩⟩
    have t12:=(t8.trans s9).trans u
    have tb12:=tb6.same t12
    have hp12:=t12 _ _ hp6
    have ca12:=ca6.same t12
    generalize upd (upd (upd H9 p10 (.lst [])) p11 (.tup [V.str (Str.ofString ""),V.int 0,V.ref p10])) p12 (.lst [V.ref p11])=H12 at tb12 hp12 ca12
    clear tb6 hp6 ca6 t12 u u10 u11 u12 tw k8 h8 ht8 ht6 h7
    walk_at "vc"
    refine ⟨⟨_,SqL.of hp12⟩,loopL (xs:=us) (LwI [some (V.ref x),some (V.int (ns.getD 0 0)),some (V.ref p),some (V.ref ph),some (V.ref t)] H12) ⟨⟨none,none,rfl⟩,Same.refl _⟩ (fun i σ H' _ h=>SqL.of (h.sm _ _ hp12)) ?_ ?_⟩
    · rintro i v σ H13 hv ⟨⟨v5,v6,rfl⟩,s13⟩
      have il:i<us.length:=(List.getElem?_eq_some_iff.mp hv).1
      obtain ⟨c,ec⟩:∃ c,cs[i]?=some c:=⟨_,List.getElem?_eq_getElem (by omega)⟩
      obtain ⟨a,rfl,ha,_⟩:=(ca12.same s13).it i v c hv ec
      have hc:=List.mem_of_getElem? ec
      obtain ⟨⟨n,en,gn⟩,_⟩:=cg c hc
      have tb13:=tb12.same s13
      obtain ⟨dt,_,_,_,ht,_⟩:=id tb13
      rw [gName_ap]
      refine seq_step fun k2 hk2=>?_
      walk_at "vc"
      refine ⟨_,_,_,ht,rfl,_,_,h_colof,_,.inl (.inl ha),_,atI_nat (j:=0) rfl,t,cs,c.1,c,rfl,tb13,hc,rfl,fun c' h e=>nd_inj cs nd c hc c' h e,fun y H14 s14 cy=>⟨y,rfl,?_⟩⟩
      have fin:∀ r:Int,r=(if c.2.1=bitsS then 2^n.toNat-1 else n)→0≤n→n≤999→k2 [some (V.ref x),some (V.int (ns.getD 0 0)),some (V.ref p),some (V.ref ph),some (V.ref t),some (V.ref a),some (V.int r)] H14:=fun r er n0 n9=>by
        refine hk2 _ _ ?_
        have ha':=s14 _ _ ha
        rw [en] at ha'
        walk_at "vc"
        refine ⟨r,rfl,_,rfl,?_⟩
        rw [if_neg (by decide)]
        refine ⟨a,c.1,c.2.1,n,rfl,ha',n0,n9,rfl,?_⟩
        rw [if_pos (by rw [er])]
        exact ⟨⟨_,_,rfl⟩,s13.trans s14⟩
      unfold ColC at cy
      rw [en] at cy
      split at cy
      · rename_i z
        obtain ⟨dy,m',d1,d2,hy,_⟩:=id cy
        have hn:0≤n∧n≤999:=by
          rcases gn with ⟨_,h⟩ | ⟨h,_⟩
          · exact h
          · rw [z] at h
            exact absurd h (by decide +kernel)
        exact ⟨_,_,_,hy,rfl,_,_,h_topV,y,n,rfl,cy,fin n (by rw [if_neg (by rw [z];decide +kernel)]) hn.1 hn.2⟩
      · rename_i z
        obtain ⟨dy,m',d1,d2,hy,_⟩:=id cy
        obtain ⟨kb,h1,h2⟩:=gn.resolve_left fun h=>z h.1
        exact ⟨_,_,_,hy,rfl,_,_,h_topB,y,n,rfl,cy,by omega,h2,fin _ (by rw [if_pos kb]) (by omega) (by omega)⟩
    · rintro σ H13 ⟨⟨v5,v6,rfl⟩,s13⟩
      refine hk _ _ (seq_step fun k hk=>?_)
      have tb13:=tb12.same s13
      have hp13:=s13 _ _ hp12
      obtain ⟨dt,_,_,_,ht,_⟩:=id tb13
      walk_at "vc"
      refine ⟨_,_,_,ht,rfl,_,_,h_names,t,cs,rfl,tb13,fun pn H14 s14 np14 h14=>⟨by rw [tyV_list];exact ⟨_,SqL.of h14⟩,pn,rfl,_,h14,hk _ _ ?_⟩⟩
      have s15:Same H13 (upd H14 pn (.lst [])):=s14.put np14
      have tb15:=tb13.same s15
      have hp15:=s15 _ _ hp13
      obtain ⟨dt',_,_,_,ht',_⟩:=id tb15
      walk_at "vc"
      refine ⟨_,_,_,ht',rfl,_,_,h_names,t,cs,rfl,tb15,fun pm H16 s16 np16 h16=>?_⟩
      have tb16:=tb15.same s16
      have hp16:=s16 _ _ hp15
      obtain ⟨dt',_,_,_,ht',_⟩:=id tb16
      refine ⟨pm,rfl,_,.inl (SqL.of h16),_,.inl (SqL.of hp16),?_⟩
      rw [if_pos (by rw [List.length_map,cl,ul])]
      refine ⟨_,_,_,ht',rfl,_,_,h_rows,t,cs,rfl,tb16,fun pr H17 s17 me=>?_⟩
      obtain ⟨dm,a,b,c,hm,_⟩:=id me
      exact ⟨pr,rfl,_,_,_,hm,rfl,_,_,h_many,pr,rfl,me,rfl,by rw [decide_eq_true rfl];exact q _⟩
end
section
variable {P:Program}{w:World}{K:PySem.W.Frag}{mg:Str→Option Value}{base:Heap}
theorem ps_sp (B:Blt mg) (f:Addr) (cdv:Value) (A:Around) (outer:List Env) (s:Shared) (H:Hp) (E:XK):PSs (cxOf CX0 P w K mg base ["_law_columns_here","_law_number","_law_at","_law_name","_law_kind","_law_size","_law_way","_law_pick"] "_law_spoilt" (defScope s_l_spoilt) f cdv A outer s H E).nox (defBody s_l_spoilt) (tSp K):=by
  have h5:PS (cxOf CX0 P w K mg base ["_law_columns_here","_law_number","_law_at","_law_name","_law_kind","_law_size","_law_way","_law_pick"] "_law_spoilt" (defScope s_l_spoilt) f cdv A outer s H E).nox ((defBody s_l_spoilt).getD 5 (.Pass ⟨0,0,0,0⟩)) (tIfS (tTest (tOp (rI0 fun i j=>V.bl (decide (i<j))) (tVar 6) (tC (V.int 3)))) (tAsg (tOp (rIxL K) (tLst (tCons (tC (V.str (Str.ofString ""))) (tCons (tOp cat3 (tVar 3) (tC (V.str (Str.ofString "abcdefgh")))) (tCons (tOp cat3 (tSl rSlS (tVar 3) (tPart (tC (V.int 1))) tNoPart) (tC (V.str (Str.ofString "A")))) (tCons (tOp cat3 (tSl rSlS (tVar 3) (tPart (tC (V.int 1))) tNoPart) (tC (V.str (Str.ofString " ")))) (tCons (tOp cat3 (tSl rSlS (tVar 3) (tPart (tC (V.int 1))) tNoPart) (tC (V.str (Str.ofString "1")))) (tCons (tC (V.str (Str.ofString "from"))) (tCons (tC (V.str (Str.ofString "none"))) (tCons (tC (V.str (Str.ofString "is"))) tNil))))))))) (tVar 7)) (gName 3)) tNext):=by
    refine ps_if ?_ ?_ ?_
    · exact pt_cmpR op_lt (pv 6) pe_int (nomark _)
    · refine pss_one ?_
      refine @ps_set _ _ 3 _ _ _ _ ?_ ?_ ?_ ?_ ?_ ?_
      · exact sc_l_spoilt.nd
      · rfl
      · first | exact Or.inl rfl | exact Or.inr rfl
      · refine pe_ix (ix_listK K) ?_ (pv 7) (fun _ _=>rfl)
        refine pe_lst ?_
        refine pa_cons ?_ ?_
        · exact pe_str
        refine pa_cons ?_ ?_
        · exact pe_op op_add_str (pv 3) pe_str
        refine pa_cons ?_ ?_
        · exact (pe_op op_add_str (pe_slice sl_str (pv 3) (po_some pe_int) po_none) pe_str)
        refine pa_cons ?_ ?_
        · exact (pe_op op_add_str (pe_slice sl_str (pv 3) (po_some pe_int) po_none) pe_str)
        refine pa_cons ?_ ?_
        · exact (pe_op op_add_str (pe_slice sl_str (pv 3) (po_some pe_int) po_none) pe_str)
        refine pa_cons ?_ ?_
        · exact pe_str
        refine pa_cons ?_ ?_
        · exact pe_str
        refine pa_cons ?_ ?_
        · exact pe_str
        exact pa_nil
      · rfl
      · first | exact .inl rfl | exact .inr rfl
    · exact pss_nil
  have h10:PS (cxOf CX0 P w K mg base ["_law_columns_here","_law_number","_law_at","_law_name","_law_kind","_law_size","_law_way","_law_pick"] "_law_spoilt" (defScope s_l_spoilt) f cdv A outer s H E).nox ((defBody s_l_spoilt).getD 10 (.Pass ⟨0,0,0,0⟩)) (tIfS (tTest (tOp rEq (tVar 6) (tC (V.int 7)))) (tAsg (tOp (rIxL K) (tLst (tCons (tC (V.bl true)) (tCons (tC (V.bl false)) (tCons (tC V.non) (tCons (tC (V.str (Str.ofString "1"))) (tCons (tC (V.str (Str.ofString ""))) (tCons (tTup (tCons (tC (V.int 1)) tNil)) (tCons (tLst (tCons (tC (V.int 1)) tNil)) (tCons (tC (V.str (Str.ofString "bits"))) tNil))))))))) (tVar 7)) (gName 5)) tNext):=by
    refine ps_if ?_ ?_ ?_
    · exact pt_cmpR op_eq (pv 6) pe_int (nomark _)
    · refine pss_one ?_
      refine @ps_set _ _ 5 _ _ _ _ ?_ ?_ ?_ ?_ ?_ ?_
      · exact sc_l_spoilt.nd
      · rfl
      · first | exact Or.inl rfl | exact Or.inr rfl
      · refine pe_ix (ix_listK K) ?_ (pv 7) (fun _ _=>rfl)
        refine pe_lst ?_
        refine pa_cons ?_ ?_
        · exact pe_bl
        refine pa_cons ?_ ?_
        · exact pe_bl
        refine pa_cons ?_ ?_
        · exact pe_non
        refine pa_cons ?_ ?_
        · exact pe_str
        refine pa_cons ?_ ?_
        · exact pe_str
        refine pa_cons ?_ ?_
        · exact pe_tup (pa_cons pe_int pa_nil)
        refine pa_cons ?_ ?_
        · exact pe_lst (pa_cons pe_int pa_nil)
        refine pa_cons ?_ ?_
        · exact pe_str
        exact pa_nil
      · rfl
      · first | exact .inl rfl | exact .inr rfl
    · exact pss_nil
  exact (pss_cons (ps_set (i:=2) sc_l_spoilt.nd rfl (by walk_at "l") (pe_op op_mod (pe_op op_fdiv (pv 1) pe_int) (pe_callB (call_lenK K) rfl B.len PySem.boot_len (pa_cons (pv 0) pa_nil))))
      (pss_cons (ps_asg (pe_ix (ix_listK K) (pv 0) (pv 2) (fun _ _=>rfl)) (pg_tupK K rfl (pgs_cons (pg_name (i:=3) sc_l_spoilt.nd rfl (by walk_at "l")) (pgs_cons (pg_name (i:=4) sc_l_spoilt.nd rfl (by walk_at "l")) (pgs_cons (pg_name (i:=5) sc_l_spoilt.nd rfl (by walk_at "l")) pgs_nil)))))
      (pss_cons (ps_set (i:=6) sc_l_spoilt.nd rfl (by walk_at "l") (pe_op op_mod (pv 1) pe_int))
      (pss_cons (ps_set (i:=7) sc_l_spoilt.nd rfl (by walk_at "l") (pe_op op_mod (pe_op op_fdiv (pv 1) pe_int) pe_int))
      (pss_cons (ps_if (pt_cmpR op_eq (pv 6) pe_int (nomark _)) (pss_one (ps_ret (pe_ix (ix_listK K) (pe_lst (pa_cons (pe_slice (sl_listK K) (pv 0) po_none (po_some pe_int)) (pa_cons (pe_op op_cat (pv 0) (pe_op op_rep (pe_lst (pa_cons (pe_tup (pa_cons pe_str (pa_cons pe_str (pa_cons pe_int pa_nil)))) pa_nil)) (pe_op op_sub pe_int (pe_callB (call_lenK K) rfl B.len PySem.boot_len (pa_cons (pv 0) pa_nil))))) pa_nil))) (pe_op op_mod (pv 7) pe_int) (fun _ _=>rfl)))) pss_nil)
      (pss_cons h5
      (pss_cons (ps_if (pt_cmpR op_eq (pv 6) pe_int (nomark _)) (pss_one (ps_set (i:=3) sc_l_spoilt.nd rfl (by walk_at "l") (pe_ix (ix_tupK K) (pe_ix (ix_listK K) (pv 0) (pe_op op_sub (pv 2) pe_int) (fun _ _=>rfl)) pe_int (fun _ _=>rfl)))) pss_nil)
      (pss_cons (ps_if (PW.pt (pw_or (pt_cmpR op_eq (pv 6) pe_int (nomark _)) (pw_or1 (PW.pt (pw_and (pt_cmpR op_eq (pv 6) pe_int (nomark _)) (pw_and1 (pt_cmpR op_eq (pe_callB (call_lenK K) rfl B.len PySem.boot_len (pa_cons (pv 0) pa_nil)) pe_int (nomark _)))))))) (pss_one (ps_set (i:=4) sc_l_spoilt.nd rfl (by walk_at "l") (pe_ix (ix_listK K) (pe_lst (pa_lits rfl)) (pv 7) (fun _ _=>rfl)))) pss_nil)
      (pss_cons (ps_if (pt_cmpR op_eq (pv 6) pe_int (nomark _)) (pss_one (ps_set (i:=5) sc_l_spoilt.nd rfl (by walk_at "l") (pe_ix (ix_listK K) (pe_lst (pa_cons (pe_un un_neg pe_int) (pa_cons pe_int (pa_cons (pe_un un_neg pe_int) (pa_cons (pe_un un_neg pe_int) pa_nil))))) (pe_op op_add (pe_op op_mul pe_int (pe_callTy call_int1 rfl B.int boot_int (pa_cons (pe_cmpR op_eq (pv 4) pe_str (nomark _)) pa_nil))) (pe_op op_mod (pv 7) pe_int)) (fun _ _=>rfl)))) pss_nil)
      (pss_cons (ps_if (pt_cmpR op_eq (pv 6) pe_int (nomark _)) (pss_one (ps_set (i:=5) sc_l_spoilt.nd rfl (by walk_at "l") (pe_ix (ix_listK K) (pe_lst (pa_cons pe_int (pa_cons pe_int (pa_cons pe_int (pa_cons (pe_op op_pow pe_int pe_int) pa_nil))))) (pe_op op_add (pe_op op_mul pe_int (pe_callTy call_int1 rfl B.int boot_int (pa_cons (pe_cmpR op_eq (pv 4) pe_str (nomark _)) pa_nil))) (pe_op op_mod (pv 7) pe_int)) (fun _ _=>rfl)))) pss_nil)
      (pss_cons h10
      (pss_one (ps_ret (pe_op op_cat (pe_op op_cat (pe_slice (sl_listK K) (pv 0) po_none (po_some (pv 2))) (pe_lst (pa_cons (pe_tup (pa_cons (pv 3) (pa_cons (pv 4) (pa_cons (pv 5) pa_nil)))) pa_nil))) (pe_slice (sl_listK K) (pv 0) (po_some (pe_op op_add (pv 2) pe_int)) po_none)))))))))))))))
end
theorem cls_of_exc {K:PySem.W.Frag}{C:Addr}{bm:List Value}{n:String}(q:PySem.W.excIn K C bm n=true):(PySem.W.clsIn K C).isSome=true:=by
  unfold PySem.W.excIn at q
  split at q
  next dd cd sl ho =>
    unfold PySem.W.clsIn
    rw [ho]
    rfl
  next=>cases q
theorem xr_mk {K:PySem.W.Frag}{h:Heap}{mg:Str→Option Value}{C S:Addr}(X:K.In h)(G:h.Ns mainGlobals mg)(a1:PySem.W.nsIn K mainGlobals "BadColumn"=some (some (.ref C)))(a2:PySem.W.nsIn K mainGlobals "MarksError"=some (some (.ref S)))
    (q1:PySem.W.excIn K C bmVal "ValueError.__new__"=true) (q2:PySem.W.keepIn K (.ref C)=true) (i2:PySem.W.findIn K (.ref C) "__getattribute__"=some (some (.builtin "BaseException.__getattribute__"))) (i3:PySem.W.findIn K (.ref C) "__getattr__"=some none) (i4:PySem.W.findIn K (.ref C) "__class__"=some (some (.builtin "object.__class__"))) (i5:PySem.W.mroIn K C (.type "object")=some true) (i6:PySem.W.mroIn K C (.type "BaseException")=some true)
    (m1:PySem.W.exmOne K (.ref C) (.ref C)=some true) (m2:PySem.W.exmOne K (.ref C) (.ref S)=some true) (k1:PySem.W.kitOne K (.ref C) (.ref C)=some true) (k2:PySem.W.kitOne K (.ref C) (.type "ValueError")=some true):∃ C S,XR K mg C S :=
  ⟨C,S,⟨PySem.W.mg_of X G a1,PySem.W.mg_of X G a2,⟨q1,q2⟩,⟨cls_of_exc q1,i2,i3,i4,i5,i6⟩,m1,m2,k1,k2⟩⟩
theorem base_mk {K:PySem.W.Frag}{h:Heap}{mg:Str→Option Value}{M f:Addr}{oc:Value}{od an:Option Addr}{osl:Array (Option Value)}{kV doc pm cdv ct:Value}(X:K.In h)(G:h.Ns mainGlobals mg)(a:PySem.W.nsIn K mainGlobals "Column"=some (some (.ref M)))
    (sp:PySem.W.specialIn K (.ref M) "__getattribute__"=some (some (.builtin "type.__getattribute__"))) (rd:PySem.W.readsIn K M (.type "type")=true) (fc:PySem.W.findCls K (.ref M) (.type "type") "__init__"=some (.val (.ref f)))
    (l:K.lookup f=some ⟨oc,od,.func (PySem.W.fnOf "__init__" "Column.__init__" (defArgs s_Column___init__) (defBody s_Column___init__) (defScope s_Column___init__) .none kV doc pm an cdv ct),osl⟩) (c:PySem.W.codeIn K cdv "Column.__init__"=true) (k:PySem.W.keepIn K (.ref f)=true)
    (hb:∀ (kV doc pm:Value) (an:Option Addr) (cdv ct:Value) (us:List Value),us.length=["self"].length→bindArgs (PySem.W.fnOf "__init__" "Column.__init__" (defArgs s_Column___init__) (defBody s_Column___init__) (defScope s_Column___init__) .none kV doc pm an cdv ct) ⟨us,[]⟩=pure ((["self"]:List Str).zip us)) :
    ∃ M f fd,ByCls K mg "Column" "__init__" M f∧Fun K "__init__" "Column.__init__" s_Column___init__ f fd∧Binds K fd ["self"] [] :=
  ⟨M,f,_,⟨PySem.W.mg_of X G a,sp,rd,fc,k⟩,fun_mk l c k,(fun_mk l c k).binds hb⟩
theorem wire81 {P:Program}{w:World}{K:PySem.W.Frag}{mg:Str→Option Value}{base:Heap}{C_Marks C_ByValue C_ByBits C_Table C_Desk CX CE MC fC:Addr}{fdC:FuncData}{fa:Addr}{fd:FuncData}(B:Blt mg)(c_LONGEST_NAME:∃ t,mg "LONGEST_NAME"=some (.int 8 t))(c_LETTERS:∃ t,mg "LETTERS"=some (.str letS t))(c_WORDS:∃ a,mg "WORDS"=some (.ref a)∧∀ H,SqT K H a ws8)(c_MOST_COLUMNS:∃ t,mg "MOST_COLUMNS"=some (.int 6 t))(cd_Marks:CD_Marks K mg C_Marks)(cd_ByValue:CD_ByValue K mg C_ByValue)(cd_ByBits:CD_ByBits K mg C_ByBits)(cd_Table:CD_Table K mg C_Table)(cd_Desk:CD_Desk K mg C_Desk)(D_is_of:DefAt K mg "is_of" s_is_of ["word","signs"])(D_is_name:DefAt K mg "is_name" s_is_name ["word"])(D_is_whole:DefAt K mg "is_whole" s_is_whole ["thing"])(D_is_size:DefAt K mg "is_size" s_is_size ["kind","size"])(D_columns_of:DefAt K mg "columns_of" s_columns_of ["told"])(D_check_name:DefAt K mg "check_name" s_check_name ["name","columns"])(D_l_mixed:DefAt K mg "_law_mixed" s_l_mixed ["_law_cell","_law_k"])(D_l_cell_at:DefAt K mg "_law_cell_at" s_l_cell_at ["_law_script","_law_k"])(D_l_whole:DefAt K mg "_law_whole" s_l_whole ["_law_found"])(D_l_names:DefAt K mg "_law_names" s_l_names ["_law_cell"])(D_l_columns:DefAt K mg "_law_columns" s_l_columns ["_law_cell","_law_many"])(D_l_top:DefAt K mg "_law_top" s_l_top ["_law_column"])(D_l_refused:DefAt K mg "_law_refused" s_l_refused ["_law_columns_here"])(D_l_spoilt:DefAt K mg "_law_spoilt" s_l_spoilt ["_law_columns_here","_law_number"])(xr:XR K mg CX CE)(bc:ByCls K mg "Column" "__init__" MC fC)(FC:Fun K "__init__" "Column.__init__" s_Column___init__ fC fdC)(bC:Binds K fdC ["self"] [])(FL:Fun K "law" "law" s_law fa fd):FnOk P w K mg base CX0 100 fa fd ["_law_script"] (spLaw K):=by
  have h_l_mixed:=ok_mixed (P:=P) (w:=w) (base:=base) D_l_mixed
  have h_l_cell_at:=ok_cell_at (P:=P) (w:=w) (base:=base) B D_l_cell_at
  have h_l_whole:=ok_whole (P:=P) (w:=w) (base:=base) B D_l_whole
  have h_is_of:=ok_is_of (P:=P) (w:=w) (base:=base) B D_is_of
  have h_is_name:=ok_is_name (P:=P) (w:=w) (base:=base) c_LONGEST_NAME c_LETTERS c_WORDS B h_is_of D_is_name
  have h_Marks:=ok_MI (P:=P) (w:=w) (base:=base) cd_Marks
  have h_MTold:=ok_MTold (P:=P) (w:=w) (base:=base) B cd_Marks
  have h_MMany:=ok_MMany (P:=P) (w:=w) (base:=base) cd_Marks
  have h_MCop:=ok_MCop (P:=P) (w:=w) (base:=base) B h_Marks cd_Marks
  have ccV:ClC K C_ByValue:=⟨cd_ByValue.c,cd_ByValue.n_valued,cd_ByValue.n_by_number,cd_ByValue.n_by_key⟩
  have ccB:ClC K C_ByBits:=⟨cd_ByBits.c,cd_ByBits.n_valued,cd_ByBits.n_by_number,cd_ByBits.n_by_key⟩
  have h_ByValue:=ok_VI (P:=P) (w:=w) (base:=base) cd_ByValue (ok_CI h_Marks ccV bc FC bC)
  have h_ByBits:=ok_BI (P:=P) (w:=w) (base:=base) cd_ByBits (ok_CI h_Marks ccB bc FC bC)
  have h_sV:=ok_sets (P:=P) (w:=w) (base:=base) (CM:=C_Marks) (f:="greatest") B ccV cd_ByValue.m_sets
  have h_sB:=ok_sets (P:=P) (w:=w) (base:=base) (CM:=C_Marks) (f:="width") B ccB cd_ByBits.m_sets
  have h_frV:=ok_freshV cd_ByValue h_ByValue
  have h_frB:=ok_freshB cd_ByBits h_ByBits
  have h_topV:=ok_topV (P:=P) (w:=w) (base:=base) (CM:=C_Marks) cd_ByValue
  have h_topB:=ok_topB (P:=P) (w:=w) (base:=base) (CM:=C_Marks) cd_ByBits
  have h_cV:=ok_copied (.inl rfl) B ccV h_frV h_MCop cd_ByValue.m_copied
  have h_cB:=ok_copied (.inr rfl) B ccB h_frB h_MCop cd_ByBits.m_copied
  have h_is_whole:=ok_is_whole (P:=P) (w:=w) (base:=base) B D_is_whole
  have h_is_size:=ok_is_size B h_is_whole D_is_size
  have h_columns_of:=ok_columns_of c_MOST_COLUMNS xr.g xr.c B h_is_name h_is_size h_ByValue h_ByBits D_columns_of
  have h_Table:=ok_TI h_Marks h_columns_of cd_Table
  have h_Desk:=ok_DI h_Table cd_Desk
  have h_names:=ok_TNames (P:=P) (w:=w) (base:=base) (CM:=C_Marks) (CV:=C_ByValue) (CB:=C_ByBits) B cd_Table
  have h_rows:=ok_TRows (CV:=C_ByValue) (CB:=C_ByBits) h_MCop cd_Table
  have h_told:=ok_TTold h_MTold h_sV h_sB cd_Table
  have h_check_name:=ok_check_name (P:=P) (w:=w) (base:=base) D_check_name
  have h_colof:=ok_column_of h_check_name h_cV h_cB cd_Table
  have h_l_names:=ok_names81 B h_l_mixed D_l_names
  have h_l_columns:=ok_columns81 B h_l_mixed h_l_names D_l_columns
  have h_l_top:=ok_top81 (P:=P) (w:=w) (base:=base) D_l_top
  have h_l_refused:=ok_refused81 B xr h_Table h_Desk D_l_refused
  have h_l_spoilt:=ok_spoilt81 (P:=P) (w:=w) (base:=base) (fun f cdv A outer s H E=>ps_sp B f cdv A outer s H E) D_l_spoilt
  exact (ok_law B h_l_cell_at h_l_whole h_l_mixed h_l_columns h_l_spoilt h_l_refused h_l_top h_Table h_names h_rows h_told h_colof h_topV h_topB h_MMany FL).mono (by decide)
theorem law_mk {K:PySem.W.Frag}{h:Heap}{mg:Str→Option Value}{fa f:Addr}{oc:Value}{od an:Option Addr}{osl:Array (Option Value)}{kV doc pm cdv ct:Value}(X:K.In h)(G:h.Ns mainGlobals mg)(hfa:mg "law"=some (.ref fa))(a:PySem.W.nsIn K mainGlobals "law"=some (some (.ref f)))
    (l:K.lookup f=some ⟨oc,od,.func (PySem.W.fnOf "law" "law" (defArgs s_law) (defBody s_law) (defScope s_law) .none kV doc pm an cdv ct),osl⟩) (c:PySem.W.codeIn K cdv "law"=true) (k:PySem.W.keepIn K (.ref f)=true) :
    ∃ fd,Fun K "law" "law" s_law fa fd∧∀ (s:Shared) (v:Value),BindsTo s fd ⟨[v],[]⟩ [("_law_script",v)]:=by
  have e:=hfa.symm.trans (PySem.W.mg_of X G a)
  cases e
  exact ⟨_,fun_mk l c k,fun s v=>.of_eq rfl⟩
theorem walk {l:PySem.W.OpenLaw}{q:Program}{loose:List Str}{XP:(Str→Option Value)→Heap→Prop}{YP:World→Heap→Prop}{d:DefRec}{K:Params→PySem.W.Frag}(hn:l.most=some 63)(hdf:d.params.defaults=[])
    (hY:∀ (w:World) (h:Heap),YP w h→(K w.params).In h)
    (F:∀ (w:World) (mg:Str→Option Value) (fa:Addr) (h:Heap),(K w.params).In h→h.Ns mainGlobals mg→mg d.name=some (.ref fa) →
      ∃ fd:FuncData,(∀ (s:Shared) (u:Value),BindsTo s fd ⟨[u],[]⟩ [("_law_script",u)])∧∀ base:Heap,(K w.params).In base→base.Ns mainGlobals mg→FnOk l.prog w (K w.params) mg base CX0 100 fa fd ["_law_script"] (spLaw (K w.params))) :
    PySem.W.WalkO q loose XP YP l.row.toRowW d [] (fun f vs=>PySem.call f vs) :=
  L2.walk_of (n:=63) (k:=100) (x:="_law_script") (CX:=fun _=>CX0) (sp:=fun w=>spLaw (K w.params)) hn (by decide) hdf ⟨rfl,by decide,by decide⟩ hY F (fun _ _ a ns hl _ hS=>⟨a,ns,rfl,hS,hl,fun _=>rfl⟩) fun _ _ _ _ _ z=>z
theorem ex_cd {K:PySem.W.Frag}{h:Heap}{mg:Str→Option Value}{x:Str}{C:Addr}{R:Addr→Prop}(X:K.In h)(G:h.Ns mainGlobals mg)(a:PySem.W.nsIn K mainGlobals x=some (some (.ref C)))(r:mg x=some (.ref C)→R C):∃ C,R C:=⟨C,r (PySem.W.mg_of X G a)⟩
end My
theorem PySem.W.Fast.te16677045093907818321:True:=trivial
def PySem.W.Fast.tw16677045093907818321:Unit:=()
theorem PySem.W.Fast.te4489664525109424969:True:=trivial
def PySem.W.Fast.tw4489664525109424969:Unit:=()
theorem PySem.W.Fast.te901175982049840830:True:=trivial
def PySem.W.Fast.tw901175982049840830:Unit:=()
theorem PySem.W.Fast.te8403559534865787773:True:=trivial
def PySem.W.Fast.tw8403559534865787773:Unit:=()
theorem PySem.W.Fast.te13052408679150730464:True:=trivial
def PySem.W.Fast.tw13052408679150730464:Unit:=()
theorem PySem.W.Fast.te16555476440528808052:True:=trivial
def PySem.W.Fast.tw16555476440528808052:Unit:=()
theorem PySem.W.Fast.te4868988410673395695:True:=trivial
def PySem.W.Fast.tw4868988410673395695:Unit:=()
open PySem PySem.W PyProof.Rows My L2
local macro_rules | `(tactic| walk_at "d1")=>`(tactic| (dsimp only [L2.KOf]; refine' defAt_mk (by assumption) (by assumption) ?a ?l ?c ?k ?b; (case a=>k_is); (case l=>k_is); (case c=>k_is); (case k=>k_is); exact fun _ _ _ _ _ _=>all1 fun _=>rfl))
local macro_rules | `(tactic| walk_at "d2")=>`(tactic| (dsimp only [L2.KOf]; refine' defAt_mk (by assumption) (by assumption) ?a ?l ?c ?k ?b; (case a=>k_is); (case l=>k_is); (case c=>k_is); (case k=>k_is); exact fun _ _ _ _ _ _=>all2 fun _ _=>rfl))
local macro_rules | `(tactic| walk_at "i1")=>`(tactic| (refine' maker_mk ?a ?b ?c ?d ?e ?f ?g ?h; (case a=>k_is); (case b=>k_is); (case c=>k_is); (case d=>k_is); (case e=>k_is); (case f=>k_is); (case g=>k_is); exact fun _ _ _ _ _ _=>all1 fun _=>rfl))
local macro_rules | `(tactic| walk_at "i2")=>`(tactic| (refine' maker_mk ?a ?b ?c ?d ?e ?f ?g ?h; (case a=>k_is); (case b=>k_is); (case c=>k_is); (case d=>k_is); (case e=>k_is); (case f=>k_is); (case g=>k_is); exact fun _ _ _ _ _ _=>all2 fun _ _=>rfl))
local macro_rules | `(tactic| walk_at "m1")=>`(tactic| (refine' mdef_mk ?a ?b ?c ?d ?e ?f; (case a=>k_is); (case b=>k_is); (case c=>k_is); (case d=>k_is); (case e=>k_is); exact fun _ _ _ _ _ _=>all1 fun _=>rfl))
local macro_rules | `(tactic| walk_at "m2")=>`(tactic| (refine' mdef_mk ?a ?b ?c ?d ?e ?f; (case a=>k_is); (case b=>k_is); (case c=>k_is); (case d=>k_is); (case e=>k_is); exact fun _ _ _ _ _ _=>all2 fun _ _=>rfl))
local macro_rules | `(tactic| walk_at "cc")=>`(tactic| (refine' ⟨?a,?b,?c,?d⟩; (case a=>k_is); (case b=>k_is); (case c=>k_is); (case d=>k_is)))
local macro_rules | `(tactic| walk_at "ci")=>`(tactic| (refine' isi_to (by assumption) (by assumption) ?a ?b; (case a=>k_is); (case b=>kit_is)))
local macro_rules | `(tactic| walk_at "xi")=>`(tactic| (refine' xisi_mk ?a ?b ?c ?d ?e ?f; (case a=>k_is); (case b=>k_is); (case c=>k_is); (case d=>k_is); (case e=>k_is); (case f=>k_is)))
local macro_rules | `(tactic| walk_at "xm")=>`(tactic| (refine' xi_mk (xmk_mk ?ya ?yb ?yc ?yd ?ye ?yf ?yg) ?yh ?yi ?yj ?yk ?yl ?ym ?yn ?yo ?yp ?yq ?yr; (case ya=>k_is); (case yb=>k_is); (case yc=>k_is); (case yd=>k_exc); (case ye=>k_is); (case yf=>k_is); (case yg=>k_is); (case yh=>k_is); (case yi=>k_is); (case yj=>k_is); (case yk=>k_is); (case yl=>rfl); (case ym=>rfl); (case yn=>k_is); (case yo=>k_is); (case yp=>k_is); (case yq=>k_is); (case yr=>exact fun _ _ _ _ _ _=>all2 fun _ _=>rfl)))
local macro_rules | `(tactic| walk_at "cn")=>`(tactic| (show PySem.W.findIn _ _ _ = _; k_is))
local macro_rules | `(tactic| walk_at "ic")=>`(tactic| (refine' int_mk (by assumption) (by assumption) ?a; (case a=>k_is)))
set_option maxRecDepth 100000 in
set_option maxHeartbeats 0 in
theorem PySem.Challenge.cw_runmarks_k81_columns_of_a_table_holds : PySem.Challenge.rw_runmarks_k81_columns_of_a_table.Holds := by
  w_on;o_law;k_head;(case hw=>w_witness2)
  k_fill
  refine My.walk (l:=PySem.Challenge.rw_runmarks_k81_columns_of_a_table) rfl rfl (fun w h Y=>PySem.W.km_in_of Y) ?F
  case F =>
    intro w mg fa h KX G hmg
    have D_is_of:DefAt (L2.KOf KX) mg "is_of" s_is_of ["word","signs"]:=by walk_at "d2"
    have D_is_name:DefAt (L2.KOf KX) mg "is_name" s_is_name ["word"]:=by walk_at "d1"
    have D_is_whole:DefAt (L2.KOf KX) mg "is_whole" s_is_whole ["thing"]:=by walk_at "d1"
    have D_halved:DefAt (L2.KOf KX) mg "halved" s_halved ["many","goes_on"]:=by walk_at "d2"
    have D_halved_keys:DefAt (L2.KOf KX) mg "halved_keys" s_halved_keys ["keys","key"]:=by walk_at "d2"
    have D_check_number:DefAt (L2.KOf KX) mg "check_number" s_check_number ["thing"]:=by walk_at "d1"
    have D_check_name:DefAt (L2.KOf KX) mg "check_name" s_check_name ["name","columns"]:=by walk_at "d2"
    have D_is_size:DefAt (L2.KOf KX) mg "is_size" s_is_size ["kind","size"]:=by walk_at "d2"
    have D_columns_of:DefAt (L2.KOf KX) mg "columns_of" s_columns_of ["told"]:=by walk_at "d1"
    have D_l_cell_at:DefAt (L2.KOf KX) mg "_law_cell_at" s_l_cell_at ["_law_script","_law_k"]:=by walk_at "d2"
    have D_l_whole:DefAt (L2.KOf KX) mg "_law_whole" s_l_whole ["_law_found"]:=by walk_at "d1"
    have D_l_mixed:DefAt (L2.KOf KX) mg "_law_mixed" s_l_mixed ["_law_cell","_law_k"]:=by walk_at "d2"
    have D_l_names:DefAt (L2.KOf KX) mg "_law_names" s_l_names ["_law_cell"]:=by walk_at "d1"
    have D_l_columns:DefAt (L2.KOf KX) mg "_law_columns" s_l_columns ["_law_cell","_law_many"]:=by walk_at "d2"
    have D_l_top:DefAt (L2.KOf KX) mg "_law_top" s_l_top ["_law_column"]:=by walk_at "d1"
    have D_l_spoilt:DefAt (L2.KOf KX) mg "_law_spoilt" s_l_spoilt ["_law_columns_here","_law_number"]:=by walk_at "d2"
    have D_l_refused:DefAt (L2.KOf KX) mg "_law_refused" s_l_refused ["_law_columns_here"]:=by walk_at "d1"
    have e_Marks:∃ C,CD_Marks (L2.KOf KX) mg C:=by
      dsimp only [L2.KOf]
      refine' ex_cd (x:="Marks") KX G ?aMarks ?bMarks
      (case aMarks=>k_is)
      intro z
      refine' ⟨z,?_,?_,?_,?_,?_,?_,?_,?_,?_⟩
      · walk_at "cc"
      · walk_at "i1"
      · walk_at "m1"
      · walk_at "m1"
      · walk_at "m1"
      · walk_at "cn"
      · walk_at "cn"
      · walk_at "cn"
      · walk_at "cn"
    obtain ⟨C_Marks,cd_Marks⟩:=e_Marks
    have e_ByBits:∃ C,CD_ByBits (L2.KOf KX) mg C:=by
      dsimp only [L2.KOf]
      refine' ex_cd (x:="ByBits") KX G ?aByBits ?bByBits
      (case aByBits=>k_is)
      intro z
      refine' ⟨z,?_,?_,?_,?_,?_,?_,?_,?_,?_,?_⟩
      · walk_at "cc"
      · walk_at "i2"
      · walk_at "m1"
      · walk_at "m1"
      · walk_at "m1"
      · walk_at "m1"
      · walk_at "cn"
      · walk_at "cn"
      · walk_at "cn"
      · walk_at "cn"
    obtain ⟨C_ByBits,cd_ByBits⟩:=e_ByBits
    have e_ByValue:∃ C,CD_ByValue (L2.KOf KX) mg C:=by
      dsimp only [L2.KOf]
      refine' ex_cd (x:="ByValue") KX G ?aByValue ?bByValue
      (case aByValue=>k_is)
      intro z
      refine' ⟨z,?_,?_,?_,?_,?_,?_,?_,?_,?_,?_⟩
      · walk_at "cc"
      · walk_at "i2"
      · walk_at "m1"
      · walk_at "m1"
      · walk_at "m1"
      · walk_at "m1"
      · walk_at "cn"
      · walk_at "cn"
      · walk_at "cn"
      · walk_at "cn"
    obtain ⟨C_ByValue,cd_ByValue⟩:=e_ByValue
    have e_Table:∃ C,CD_Table (L2.KOf KX) mg C:=by
      dsimp only [L2.KOf]
      refine' ex_cd (x:="Table") KX G ?aTable ?bTable
      (case aTable=>k_is)
      intro z
      refine' ⟨z,?_,?_,?_,?_,?_,?_,?_,?_⟩
      · walk_at "cc"
      · walk_at "i2"
      · walk_at "m1"
      · walk_at "m1"
      · walk_at "m1"
      · walk_at "m2"
      · walk_at "cn"
      · walk_at "cn"
    obtain ⟨C_Table,cd_Table⟩:=e_Table
    have e_Desk:∃ C,CD_Desk (L2.KOf KX) mg C:=by
      dsimp only [L2.KOf]
      refine' ex_cd (x:="Desk") KX G ?aDesk ?bDesk
      (case aDesk=>k_is)
      intro z
      refine' ⟨z,?_,?_,?_⟩
      · walk_at "cc"
      · walk_at "i2"
      · walk_at "cn"
    obtain ⟨C_Desk,cd_Desk⟩:=e_Desk
    have c_WORDS:∃ a,mg "WORDS"=some (.ref a)∧∀ H,SqT (L2.KOf KX) H a [.str (Str.ofString "and"),.str (Str.ofString "or"),.str (Str.ofString "not"),.str (Str.ofString "all"),.str (Str.ofString "none"),.str (Str.ofString "is"),.str (Str.ofString "from"),.str (Str.ofString "to")]:=by
      dsimp only [L2.KOf]
      refine' tup_mk KX G ?eWORDS ?lWORDS ?hWORDS ?zWORDS ?rWORDS
      (case eWORDS=>k_is);(case lWORDS=>k_is);(case hWORDS=>rfl);(case zWORDS=>decide);(case rWORDS=>exact .cons ⟨_,rfl⟩ (.cons ⟨_,rfl⟩ (.cons ⟨_,rfl⟩ (.cons ⟨_,rfl⟩ (.cons ⟨_,rfl⟩ (.cons ⟨_,rfl⟩ (.cons ⟨_,rfl⟩ (.cons ⟨_,rfl⟩ (.nil)))))))))
    have c_LETTERS:∃ t,mg "LETTERS"=some (.str (Str.ofString "abcdefghijklmnopqrstuvwxyz") t):=by
      refine' str_mk KX G ?cLETTERS
      (case cLETTERS=>k_is)
    have c_LONGEST_NAME:∃ t,mg "LONGEST_NAME"=some (.int 8 t):=by walk_at "ic"
    have c_PLACES:∃ t,mg "PLACES"=some (.int 256 t):=by walk_at "ic"
    have c_GREATEST:∃ t,mg "GREATEST"=some (.int 65535 t):=by walk_at "ic"
    have c_MOST_COLUMNS:∃ t,mg "MOST_COLUMNS"=some (.int 6 t):=by walk_at "ic"
    have B:Blt mg:=by
      refine' ⟨PySem.W.mg_none_of KX G ?z0,PySem.W.mg_none_of KX G ?z1,PySem.W.mg_none_of KX G ?z2,PySem.W.mg_none_of KX G ?z3,PySem.W.mg_none_of KX G ?z4,PySem.W.mg_none_of KX G ?z5,PySem.W.mg_none_of KX G ?z6,PySem.W.mg_none_of KX G ?z7,PySem.W.mg_none_of KX G ?z8,PySem.W.mg_none_of KX G ?z9,PySem.W.mg_none_of KX G ?z10,PySem.W.mg_none_of KX G ?z11,PySem.W.mg_none_of KX G ?z12⟩
      (case z0=>k_is);(case z1=>k_is);(case z2=>k_is);(case z3=>k_is);(case z4=>k_is);(case z5=>k_is);(case z6=>k_is);(case z7=>k_is);(case z8=>k_is);(case z9=>k_is);(case z10=>k_is);(case z11=>k_is);(case z12=>k_is)
    have L:∃ fd,Fun (L2.KOf KX) "law" "law" s_law fa fd∧∀ (s:Shared) (v:Value),BindsTo s fd ⟨[v],[]⟩ [("_law_script",v)]:=by
      dsimp only [L2.KOf]
      refine' My.law_mk KX G hmg ?aL ?lL ?cL ?kL
      (case aL=>k_is);(case lL=>k_is);(case cL=>k_is);(case kL=>k_is)
    obtain ⟨fd,FL,bL⟩:=L
    refine ⟨fd,bL,fun base _ _=>?_⟩
    have eX:∃ C S,XR (L2.KOf KX) mg C S:=by
      dsimp only [L2.KOf]
      refine' xr_mk KX G ?xa1 ?xa2 ?xq1 ?xq2 ?xi2 ?xi3 ?xi4 ?xi5 ?xi6 ?xm1 ?xm2 ?xk1 ?xk2
      (case xa1=>k_is);(case xa2=>k_is);(case xq1=>k_exc);(case xq2=>k_is);(case xi2=>k_is);(case xi3=>k_is);(case xi4=>k_is);(case xi5=>k_is);(case xi6=>k_is);(case xm1=>kts_exm);(case xm2=>kts_exm);(case xk1=>kit_is);(case xk2=>kit_is)
    obtain ⟨CX,CE,xr⟩:=eX
    have eB:∃ M f fd,ByCls (L2.KOf KX) mg "Column" "__init__" M f∧Fun (L2.KOf KX) "__init__" "Column.__init__" s_Column___init__ f fd∧Binds (L2.KOf KX) fd ["self"] []:=by
      dsimp only [L2.KOf]
      refine' base_mk KX G ?ya ?ys ?yr ?yf ?yl ?yc ?yk ?yh
      (case ya=>k_is);(case ys=>k_is);(case yr=>k_is);(case yf=>k_is);(case yl=>k_is);(case yc=>k_is);(case yk=>k_is)
      case yh=>exact fun _ _ _ _ _ _=>all1 fun _=>rfl
    obtain ⟨MC,fC,fdC,bc,FC,bC⟩:=eB
    exact wire81 B c_LONGEST_NAME c_LETTERS c_WORDS c_MOST_COLUMNS cd_Marks cd_ByValue cd_ByBits cd_Table cd_Desk D_is_of D_is_name D_is_whole D_is_size D_columns_of D_check_name D_l_mixed D_l_cell_at D_l_whole D_l_names D_l_columns D_l_top D_l_refused D_l_spoilt xr bc FC bC FL
#print axioms PySem.Challenge.cw_runmarks_k81_columns_of_a_table_holds
