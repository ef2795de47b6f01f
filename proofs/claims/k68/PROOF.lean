import PyProof.Rows.All
import Wide.All
import OpenK.AllK
import Wide.FinOn
import Lean
import PyProof.EqAt
import PyProof.EqKinds
import PyProof.TupleCall
import PyProof.Rows.TupIter
import PyProof.ZipIter
import PyProof.MinMaxWalk
import PyProof.WalkInts
import PyProof.WalksMore
import PyProof.SeqI3
import PyProof.Rows.SetFrom
import PyProof.Rows.SortShell
import OpenK.KMore
import KE.KSortTup
import KE.KDictSum
import KE.KDictLaws
import KE.KIntText
import KE.IntTextLaws
import PyProof.StrBlockI
import PyProof.ConsumeWalk
import PyProof.StrLawsIn
import KE.KDictOf
import KE.KEqDict
import KE.KMinBuiltin
import PyProof.Rows.CallKwBuiltin
import PyProof.CollectWalk
import PyProof.ListNew
import PyProof.SumWalkG
import PySem.Challenge.RW_runmarks_k68_rows_and_sums
set_option maxHeartbeats 4000000
local macro_rules | `(tactic| omega) => `(tactic| lia)
local macro_rules | `(tactic| walk_at "l") => `(tactic| first | exact Or.inl rfl | exact Or.inr rfl)
local macro_rules | `(tactic| walk_at "s") => `(tactic| exact ⟨rfl,rfl,rfl,by decide +kernel,rfl,by decide +kernel,by decide +kernel⟩)
set_option Elab.async false
set_option linter.all false
set_option maxRecDepth 100000
namespace L2
open PySem PySem.Spec PyProof.Rows
abbrev Key:=Sum Int Str
def keyIs:Key→Value→Bool
  | .inl k,v=>Value.isInt k v
  | .inr x,v=>Value.isStrOf x v
def keyH (w:World):Key→Int
  | .inl k=>hashInt k
  | .inr x=>hashStr w x
theorem keyIs_shape:∀ {k:Key} {v:Value},keyIs k v=true→(∃ i t,k=Sum.inl i∧v=Value.int i t)∨(∃ x t,k=Sum.inr x∧v=Value.str x t)
  | .inl i,v,h=>by
    obtain ⟨t,e⟩:=Value.isInt_shape (k:=i) (v:=v) h
    exact .inl ⟨i,t,rfl,e⟩
  | .inr x,v,h=>by
    obtain ⟨t,e⟩:=Value.isStrOf_shape (x:=x) (v:=v) h
    exact .inr ⟨x,t,rfl,e⟩
theorem keyIs_int (i:Int)(t:Tok):keyIs (.inl i) (.int i t)=true:=by simp [keyIs,Value.isInt]
theorem keyIs_str (x:Str)(t:Tok):keyIs (.inr x) (.str x t)=true:=by simp [keyIs,Value.isStrOf]
theorem key_ll (a b:Int):decide ((Sum.inl a:Key)=Sum.inl b)=(a==b):=by
  by_cases e:a=b
  · subst e;simp
  · have h:¬ (Sum.inl a:Key)=Sum.inl b:=fun q=>e (Sum.inl.inj q)
    rw [decide_eq_false h]
    exact (beq_eq_false_iff_ne.mpr e).symm
theorem key_rr (a b:Str):decide ((Sum.inr a:Key)=Sum.inr b)=decide (a=b):=by
  by_cases e:a=b
  · subst e;simp
  · have h:¬ (Sum.inr a:Key)=Sum.inr b:=fun q=>e (Sum.inr.inj q)
    rw [decide_eq_false h,decide_eq_false e]
theorem key_lr (a:Int)(b:Str):decide ((Sum.inl a:Key)=Sum.inr b)=false:=decide_eq_false (fun q=>nomatch q)
theorem key_rl (a:Str)(b:Int):decide ((Sum.inr a:Key)=Sum.inl b)=false:=decide_eq_false (fun q=>nomatch q)
def mixKind (prog:Program) (w:World):PySem.KeyKind prog w Key where
  is:=keyIs
  hash:=keyH w
  inj := fun v a b ha hb=>by
    rcases keyIs_shape ha with ⟨i,t,rfl,rfl⟩ | ⟨x,t,rfl,rfl⟩
    · rcases keyIs_shape hb with ⟨j,u,rfl,e⟩ | ⟨y,u,rfl,e⟩
      · injection e with e1 _;rw [e1]
      · exact nomatch e
    · rcases keyIs_shape hb with ⟨j,u,rfl,e⟩ | ⟨y,u,rfl,e⟩
      · exact nomatch e
      · injection e with e1 _;rw [e1]
  byValue:=fun k v h=>by
    rcases keyIs_shape h with ⟨i,t,rfl,rfl⟩ | ⟨x,t,rfl,rfl⟩<;>rfl
  pyHash:=fun hv h=>by
    rcases keyIs_shape hv with ⟨i,t,rfl,rfl⟩ | ⟨x,t,rfl,rfl⟩
    · exact wpAny_pyHash_int h
    · exact wpAny_pyHash_str h
  eqBool:=fun hu hv h=>by
    rcases keyIs_shape hu with ⟨i,t,rfl,rfl⟩ | ⟨x,t,rfl,rfl⟩
    · rcases keyIs_shape hv with ⟨j,u,rfl,rfl⟩ | ⟨y,u,rfl,rfl⟩
      · rw [key_ll] at h;exact wpAny_eqBool_int h
      · rw [key_lr] at h;exact SeqAt.EqAt.int_str i t y u _ _ _ _ h
    · rcases keyIs_shape hv with ⟨j,u,rfl,rfl⟩ | ⟨y,u,rfl,rfl⟩
      · rw [key_rl] at h;exact SeqAt.EqAt.str_int x t j u _ _ _ _ h
      · rw [key_rr] at h;exact wpAny_eqBool_str h
  «strs»:=fun k x t v h=>by
    rcases keyIs_shape h with ⟨i,u,rfl,e⟩ | ⟨y,u,rfl,e⟩
    · exact nomatch e
    · injection e with e1 _
      subst e1
      cases v<;>rfl
theorem mixKind_is (prog:Program)(w:World)(k:Key)(v:Value):(mixKind prog w).is k v=keyIs k v:=rfl
theorem mixKind_int (prog:Program)(w:World)(i:Int)(t:Tok):(mixKind prog w).is (.inl i) (.int i t)=true:=keyIs_int i t
theorem mixKind_str (prog:Program)(w:World)(x:Str)(t:Tok):(mixKind prog w).is (.inr x) (.str x t)=true:=keyIs_str x t
end L2
namespace L2
open PySem PySem.Spec PyProof.Rows
inductive V where
  | non | bl (b:Bool) | int (i:Int) | str (x:Str) | byt (b:Array UInt8) | flt (b:UInt64) | ref (a:Addr) | ty (n:String)
  deriving DecidableEq
def RelV:V→Value→Prop
  | .non,u=>u=Value.none
  | .bl b,u=>u=Value.bool b
  | .int i,u=>∃ t,u=Value.int i t
  | .str x,u=>∃ t,u=Value.str x t
  | .byt b,u=>∃ t,u=Value.bytes b t
  | .flt b,u=>∃ t,u=Value.float b t
  | .ref a,u=>u=Value.ref a
  | .ty n,u=>u=Value.type n
abbrev Vals:List V→List Value→Prop:=Paired RelV
theorem Vals.length {xs:List V}{us:List Value}(r:Vals xs us):xs.length=us.length:=Paired.length r
theorem Vals.get:∀ {xs:List V} {us:List Value} {i:Nat} {x:V},Vals xs us→xs[i]?=some x→∃ u,us[i]?=some u∧RelV x u
  | _,_,_,_,.nil,e=>by simp at e
  | _,_,0,_,.cons r _,e=>by simp at e;subst e;exact ⟨_,rfl,r⟩
  | _,_,i+1,x,.cons _ t,e=>by
    obtain ⟨u,h1,h2⟩:=Vals.get (i:=i) (x:=x) t (by simpa using e)
    exact ⟨u,by simpa using h1,h2⟩
theorem Vals.append:∀ {xs ys:List V} {us ws:List Value},Vals xs us→Vals ys ws→Vals (xs++ys) (us++ws)
  | _,_,_,_,.nil,s=>s
  | _,_,_,_,.cons r t,s=>.cons r (Vals.append t s)
theorem Vals.take:∀ {xs:List V} {us:List Value} (n:Nat),Vals xs us→Vals (xs.take n) (us.take n)
  | _,_,0,_=>.nil
  | _,_,_+1,.nil=>.nil
  | _,_,n+1,.cons r t=>.cons r (Vals.take n t)
theorem Vals.drop:∀ {xs:List V} {us:List Value} (n:Nat),Vals xs us→Vals (xs.drop n) (us.drop n)
  | _,_,0,r=>r
  | _,_,_+1,.nil=>.nil
  | _,_,n+1,.cons _ t=>Vals.drop n t
def RelO:Option V→Option Value→Prop
  | some v,some u=>RelV v u
  | none,none=>True
  | _,_=>False
def KV {κ:Type}:List (κ × V)→List (κ × Value)→Prop:=Paired fun (p:κ × V) (q:κ × Value)=>p.1=q.1∧RelV p.2 q.2
def kV:Key→V
  | .inl i=>.int i
  | .inr x=>.str x
inductive HO where
  | lst (xs:List V)
  | tup (xs:List V)
  | dK (kvs:List (Key × V)) | dT (kvs:List (List Key × V))
  | set (S:Int→Bool) (n:Nat)
  | ins (C dx:Addr) (fs:List (Str × V))
  | own (x:Addr)
  | xd (fs:List (Str × V))
  | met (f x:Addr)
  | rng (lo hi:Int)
  | frz (o:Obj) (u:HO)
  | tbl (ps:Array Value)
  | ext (φ:Heap→Prop)
abbrev Hp:=Addr→Option HO
def upd (H:Hp)(a:Addr)(o:HO):Hp:=fun b=>if b=a then some o else H b
theorem upd_same {H:Hp}{a:Addr}{o:HO}:upd H a o a=some o:=by unfold upd;rw [if_pos rfl]
theorem upd_ne {H:Hp}{a b:Addr}{o:HO}(h:b≠a):upd H a o b=H b:=by unfold upd;rw [if_neg h]
theorem upd_upd {H:Hp}{a:Addr}{o u:HO}:upd (upd H a o) a u=upd H a u:=by
  funext b;unfold upd;split<;>rfl
theorem ne_of {H:Hp}{a b:Addr}{o u:HO}(h:H a=some o)(h':H b=some u)(d:o≠u):a≠b:=by
  intro e;subst e;rw [h] at h';exact d (Option.some.inj h')
theorem ne_of_none {H:Hp}{a b:Addr}{o:HO}(h:H a=some o)(h':H b=none):a≠b:=by
  intro e;subst e;rw [h] at h';cases h'
section
variable (P:Program)(w:World)
def ObjOk (H:Hp)(h:Heap)(a:Addr):HO→Prop
  | .lst xs=>xs.length≤sizeLine∧∃ (its:List Value) (n:Nat),Vals xs its∧h.get? a=some { cls:=.type "list",data:=.seq its.toArray n }
  | .tup xs=>xs.length≤sizeLine∧∃ its:List Value,Vals xs its∧IsTup h a its.toArray
  | .dK kvs=>kvs.length≤sizeLine∧(a==sysModules)=false∧∃ vs,KV kvs vs∧h.DictOf (mixKind P w) a vs
  | .dT kvs=>kvs.length≤sizeLine∧(a==sysModules)=false∧∃ xs:List (List Key × Addr × Value),
      Paired (fun (p:List Key × V) (q:List Key × Addr × Value)=>p.1=q.1∧H q.2.1=some (.tup (p.1.map kV))∧RelV p.2 q.2.2) kvs xs ∧
      ∃ o es ep,h.get? a=some o∧o.ExactDict∧o.data=.dict es ep∧es.toList=xs.map (entryOfKey (tupleKind (mixKind P w)))∧(xs.map (·.1)).Nodup
  | .set S n=>h.SetOf (intKind P w) a S n
  | .ins C dx fs=>H dx=some (.own a)∧fs.length≤1000∧dx≠a∧h.get? a=some (PySem.W.instObj C dx) ∧
      ∃ mA,h.Ns1 dx mA∧(∀ f,RelO (fs.lookup f) (mA f))∧PySem.Within mA (fs.map (·.1))
  | .own _=>∃ o,h.get? a=some o
  | .xd fs=>∃ mA,h.Ns1 a mA∧∀ f,RelO (fs.lookup f) (mA f)
  | .rng lo hi=>∃ t u v,h.get? a=some { cls:=.type "range",data:=.fields #[.int lo t,.int hi u,.int 1 v] }
  | .frz o u=>h.get? a=some o∧ObjOk H h a u
  | .tbl ps=>h.get? a=some { cls:=.none,data:=.fields ps }
  | .met f x=>h.get? a=some (PySem.W.methodObj (.ref f) (.ref x))
  | .ext φ=>φ h∧(∃ o,h.get? a=some o)∧∀ h1 h2:Heap,φ h1→(∀ o,h1.get? a=some o→h2.get? a=some o)→φ h2
def HOk (H:Hp)(h:Heap):Prop:=∀ a o,H a=some o→ObjOk P w H h a o
end
section
variable {P:Program}{w:World}{H H':Hp}{h h':Heap}{a:Addr}{o:HO}
theorem ObjOk.lt (x:ObjOk P w H h a o):a<h.objs.size:=by
  cases o with
  | lst xs=>obtain ⟨_,_,_,_,e⟩:=x;exact Heap.lt_size e
  | tup xs=>obtain ⟨_,_,_,p⟩:=x;exact p.lt
  | dK kvs=>obtain ⟨_,_,_,_,o,_,_,e,_⟩:=x;exact Heap.lt_size e
  | dT kvs=>obtain ⟨_,_,_,_,o,_,_,e,_⟩:=x;exact Heap.lt_size e
  | set S n=>obtain ⟨o,_,_,_,e,_⟩:=x;exact Heap.lt_size e
  | ins C dx fs=>obtain ⟨_,_,_,e,_⟩:=x;exact Heap.lt_size e
  | own y=>obtain ⟨_,e⟩:=x;exact Heap.lt_size e
  | xd fs=>obtain ⟨_,⟨_,_,_,e,_⟩,_⟩:=x;exact Heap.lt_size e
  | rng lo hi=>obtain ⟨_,_,_,e⟩:=x;exact Heap.lt_size e
  | frz ob u=>obtain ⟨e,_⟩:=x;exact Heap.lt_size e
  | tbl ps=>exact Heap.lt_size (show h.get? a=some _ from x)
  | met f y=>exact Heap.lt_size (show h.get? a=some _ from x)
  | ext φ=>obtain ⟨_,⟨_,e⟩,_⟩:=x;exact Heap.lt_size e
theorem Paired.mapP {α β:Type}{F G:α→β→Prop}:∀ {l₁:List α} {l₂:List β},Paired F l₁ l₂→(∀ a b,F a b→G a b)→Paired G l₁ l₂
  | _,_,.nil,_=>.nil
  | _,_,.cons r t,f=>.cons (f _ _ r) (Paired.mapP t f)
theorem ObjOk.stay (x:ObjOk P w H h a o)(k:∀ b u,(b=a∨H b=some (.own a))→h.get? b=some u→h'.get? b=some u)
    (ho:∀ b,H b=some (.own a)→H' b=some (.own a)) (ht:∀ b xs,H b=some (.tup xs)→H' b=some (.tup xs)):ObjOk P w H' h' a o:=by
  induction o with
  | lst xs=>obtain ⟨z,its,n,r,e⟩:=x;exact ⟨z,its,n,r,k _ _ (.inl rfl) e⟩
  | tup xs=>obtain ⟨z,its,r,ob,e,c⟩:=x;exact ⟨z,its,r,ob,k _ _ (.inl rfl) e,c⟩
  | dK kvs=>obtain ⟨z,y,vs,r,ob,es,ep,e,c⟩:=x;exact ⟨z,y,vs,r,ob,es,ep,k _ _ (.inl rfl) e,c⟩
  | dT kvs =>
    obtain ⟨z,y,xs,r,ob,es,ep,e,c⟩:=x
    exact ⟨z,y,xs,Paired.mapP r fun p q z=>⟨z.1,ht _ _ z.2.1,z.2.2⟩,ob,es,ep,k _ _ (.inl rfl) e,c⟩
  | set S n=>obtain ⟨ob,es,ep,t,e,c⟩:=x;exact ⟨ob,es,ep,t,k _ _ (.inl rfl) e,c⟩
  | ins C dx fs =>
    obtain ⟨d,z,ne,e,mA,⟨od,es,ep,e2,c⟩,r⟩:=x
    exact ⟨ho _ d,z,ne,k _ _ (.inl rfl) e,mA,⟨od,es,ep,k _ _ (.inr d) e2,c⟩,r⟩
  | own y=>obtain ⟨ob,e⟩:=x;exact ⟨ob,k _ _ (.inl rfl) e⟩
  | xd fs=>obtain ⟨mA,⟨od,es,ep,e,c⟩,r⟩:=x;exact ⟨mA,⟨od,es,ep,k _ _ (.inl rfl) e,c⟩,r⟩
  | rng lo hi=>obtain ⟨t,u,v,e⟩:=x;exact ⟨t,u,v,k _ _ (.inl rfl) e⟩
  | frz ob u ih=>obtain ⟨e,q⟩:=x;exact ⟨k _ _ (.inl rfl) e,ih q⟩
  | tbl ps =>
    have e:h.get? a=some { cls:=.none,data:=.fields ps }:=x
    show h'.get? a=some { cls:=.none,data:=.fields ps }
    exact k a _ (.inl rfl) e
  | met f y =>
    have e:h.get? a=some (PySem.W.methodObj (.ref f) (.ref y)):=x
    show h'.get? a=some (PySem.W.methodObj (.ref f) (.ref y))
    exact k a _ (.inl rfl) e
  | ext φ=>obtain ⟨p,⟨o,e⟩,st⟩:=x;exact ⟨st _ _ p fun o q=>k _ _ (.inl rfl) q,⟨o,k _ _ (.inl rfl) e⟩,st⟩
theorem HOk.lt (x:HOk P w H h)(e:H a=some o):a<h.objs.size:=(x a o e).lt
theorem HOk.fresh (x:HOk P w H h)(e:h.objs.size≤a):H a=none:=by
  cases q:H a with
  | none=>rfl
  | some u=>exact absurd (Nat.lt_of_lt_of_le (x.lt q) e) (Nat.lt_irrefl _)
theorem HOk.kept (x:HOk P w H h)(k:∀ b u,h.get? b=some u→h'.get? b=some u):HOk P w H h':=fun a o e =>
  (x a o e).stay (fun b u _ q=>k b u q) (fun _ q=>q) fun _ _ q=>q
theorem HOk.laid (x:HOk P w H h)(k:∀ b u,h.get? b=some u→h'.get? b=some u)(hp:h.objs.size≤a)(new:ObjOk P w (upd H a o) h' a o):HOk P w (upd H a o) h':=fun b u e=>by
  have hn:=x.fresh hp
  by_cases hb:b=a
  · subst hb;rw [upd_same] at e;cases e;exact new
  · rw [upd_ne hb] at e
    exact (x b u e).stay (fun c v _ q=>k c v q) (fun c q=>by rw [upd_ne (ne_of_none q hn)];exact q) fun c xs q=>by rw [upd_ne (ne_of_none q hn)];exact q
end
def Rd (H:Hp)(a:Addr)(u:HO):Prop:=H a=some u∨∃ o,H a=some (.frz o u)
theorem Rd.ok {P:Program}{w:World}{H:Hp}{h:Heap}{a:Addr}{u:HO}(r:Rd H a u)(x:HOk P w H h):ObjOk P w H h a u:=by
  rcases r with r | ⟨o,r⟩
  · exact x a u r
  · obtain ⟨_,q⟩:=x a _ r
    exact q
def Mut:Option HO→Prop
  | some (.lst _)=>True
  | some (.dK _)=>True
  | some (.dT _)=>True
  | some (.set _ _)=>True
  | some (.ins _ _ _)=>True
  | some (.ext _)=>True
  | _=>False
section
variable {P:Program}{w:World}{H:Hp}{h h':Heap}{x e:Addr}{o':HO}
theorem HOk.write (ok:HOk P w H h) (mu:Mut (H x)) (he:e=x∨H e=some (.own x)) (k:∀ b u,b≠e→h.get? b=some u→h'.get? b=some u) (heo:∃ u,h'.get? e=some u)
    (new:ObjOk P w (upd H x o') h' x o'):HOk P w (upd H x o') h':=fun b u q=>by
  have nown:∀ c y,H c=some (.own y)→c≠x:=fun c y r z=>by subst z;rw [r] at mu;exact mu
  have ntup:∀ c xs,H c=some (.tup xs)→c≠x:=fun c xs r z=>by subst z;rw [r] at mu;exact mu
  by_cases hb:b=x
  · subst hb;rw [upd_same] at q;cases q;exact new
  · rw [upd_ne hb] at q
    by_cases hbe:b=e
    · have q':H b=some (.own x):=by
        rcases he with z | z
        · exact absurd (hbe.trans z) hb
        · rw [hbe];exact z
      rw [q] at q';cases q'
      obtain ⟨v,hv⟩:=heo
      exact ⟨v,by rw [hbe];exact hv⟩
    · refine (ok b u q).stay (fun c v hc r=>k c v ?_ r) (fun c r=>by rw [upd_ne (nown c b r)];exact r) fun c xs r=>by rw [upd_ne (ntup c xs r)];exact r
      rcases hc with rfl | hc
      · exact hbe
      · rintro rfl
        rcases he with z | z
        · exact nown c b hc z
        · rw [hc] at z;cases z;exact hb rfl
end
structure Un (fs ex:List Addr)(H H':Hp)(h h':Heap):Prop where
  keep:∀ b o,h.get? b=some o→H b=none→b∉fs→b∉ex→h'.get? b=some o
  slot:∀ b o,h.get? b=some o→H b=none→b∈fs→b∉ex→∃ sl,h'.get? b=some { o with slots:=sl }
  free:∀ b o,h.get? b=some o→H b=none→b∉ex→H' b=none
  there:∀ b o,h.get? b=some o→b∉ex→∃ o',h'.get? b=some o'
  tups:∀ b xs,H b=some (.tup xs)→H' b=some (.tup xs)
  frzs:∀ b o u,H b=some (.frz o u)→H' b=some (.frz o u)
  tbls:∀ b ps,H b=some (.tbl ps)→∃ more,H' b=some (.tbl (ps++more))
section
variable {fs fs' ex ex':List Addr}{H H1 H2:Hp}{h h1 h2 h':Heap}{a x e:Addr}{o:HO}
theorem Un.any (u:Un fs ex H H1 h h1){b:Addr}{ob:Obj}(q:h.get? b=some ob)(n:H b=none)(hx:b∉ex):∃ sl,h1.get? b=some { ob with slots:=sl }:=by
  by_cases hb:b∈fs
  · exact u.slot b ob q n hb hx
  · exact ⟨ob.slots,u.keep b ob q n hb hx⟩
theorem Un.trans (a:Un fs ex H H1 h h1)(b:Un fs ex H1 H2 h1 h2):Un fs ex H H2 h h2 where
  keep:=fun c ob q n hc hx=>b.keep c ob (a.keep c ob q n hc hx) (a.free c ob q n hx) hc hx
  slot:=fun c ob q n hc hx=>by
    obtain ⟨sl,e1⟩:=a.slot c ob q n hc hx
    obtain ⟨sl',e2⟩:=b.slot c _ e1 (a.free c ob q n hx) hc hx
    exact ⟨sl',e2⟩
  free:=fun c ob q n hx=>by
    obtain ⟨o',e1⟩:=a.there c ob q hx
    exact b.free c o' e1 (a.free c ob q n hx) hx
  there:=fun c ob q hx=>by
    obtain ⟨o',e1⟩:=a.there c ob q hx
    exact b.there c o' e1 hx
  tups:=fun c xs q=>b.tups c xs (a.tups c xs q)
  frzs:=fun c ob xs q=>b.frzs c ob xs (a.frzs c ob xs q)
  tbls:=fun c ps q=>by
    obtain ⟨m1,e1⟩:=a.tbls c ps q
    obtain ⟨m2,e2⟩:=b.tbls c _ e1
    exact ⟨m1++m2,by rw [e2,Array.append_assoc]⟩
theorem Un.kept (k:∀ b u,h.get? b=some u→h'.get? b=some u):Un fs ex H H h h' :=
  ⟨fun b ob q _ _ _=>k b ob q,fun b ob q _ _ _=>⟨ob.slots,k b ob q⟩,fun _ _ _ n _=>n,fun b ob q _=>⟨ob,k b ob q⟩,fun _ _ q=>q,fun _ _ _ q=>q,fun _ ps q=>⟨#[],by rw [q];simp⟩⟩
theorem Un.refl:Un fs ex H H h h:=Un.kept fun _ _ q=>q
theorem Un.laid (k:∀ b u,h.get? b=some u→h'.get? b=some u)(hp:h.objs.size≤a)(hn:H a=none):Un fs ex H (upd H a o) h h' where
  keep:=fun b u q _ _ _=>k b u q
  slot:=fun b u q _ _ _=>⟨u.slots,k b u q⟩
  free:=fun b u q n _=>by rw [upd_ne (Nat.ne_of_lt (Nat.lt_of_lt_of_le (Heap.lt_size q) hp))];exact n
  there:=fun b u q _=>⟨u,k b u q⟩
  tups:=fun b xs q=>by rw [upd_ne (ne_of_none q hn)];exact q
  frzs:=fun b u xs q=>by rw [upd_ne (ne_of_none q hn)];exact q
  tbls:=fun b ps q=>⟨#[],by rw [upd_ne (ne_of_none q hn),q];simp⟩
theorem Un.write (mu:Mut (H x))(he:e=x∨H e=some (.own x))(k:∀ b u,b≠e→h.get? b=some u→h'.get? b=some u)(heo:∃ u,h'.get? e=some u):Un fs ex H (upd H x o) h h':=by
  have hx:∀ b,H b=none→b≠x:=fun b n z=>by subst z;rw [n] at mu;exact mu
  have hb:∀ b,H b=none→b≠e:=fun b n z=>by
    subst z
    rcases he with r | r
    · exact hx b n r
    · rw [n] at r;cases r
  have hm:∀ b u,H b=some u→¬ Mut (some u)→b≠x:=fun b u q nm z=>by subst z;rw [q] at mu;exact nm mu
  refine ⟨fun b u q n _ _=>k b u (hb b n) q,fun b u q n _ _=>⟨u.slots,k b u (hb b n) q⟩,fun b u q n _=>by rw [upd_ne (hx b n)];exact n,fun b u q _=>?_,
    fun b xs q=>by rw [upd_ne (hm b _ q fun z=>z)];exact q,fun b u xs q=>by rw [upd_ne (hm b _ q fun z=>z)];exact q,fun b ps q=>⟨#[],by rw [upd_ne (hm b _ q fun z=>z),q];simp⟩⟩
  by_cases hbe:b=e
  · subst hbe;exact heo
  · exact ⟨u,k b u hbe q⟩
end
def trk (h:Heap)(H:Hp):List Addr:=(List.range h.objs.size).filter fun a=>(H a).isSome
def hidT (h:Heap)(H:Hp):Heap:=PySem.W.hideAll h (trk h H)
theorem hidT_size (h:Heap)(H:Hp):(hidT h H).objs.size=h.objs.size:=PySem.W.hideAll_size _ _
theorem hidT_get {h:Heap}{H:Hp}{b:Addr}{o:Obj}(e:h.get? b=some o)(n:H b=none):(hidT h H).get? b=some o :=
  PySem.W.hideAll_get _ e fun hm=>by
    have q:(H b).isSome=true:=(List.mem_filter.mp hm).2
    rw [n] at q;simp at q
theorem of_hidT {h:Heap}{H:Hp}{b:Addr}{o:Obj}(e:(hidT h H).get? b=some o):h.get? b=some o∧H b=none:=by
  have e':h.get? b=some o:=PySem.W.of_hideAll (trk h H) e
  refine ⟨e',?_⟩
  cases q:H b with
  | none=>rfl
  | some x =>
    have hm:b∈trk h H:=List.mem_filter.mpr ⟨List.mem_range.mpr (Heap.lt_size e'),by simp [q]⟩
    have z:(hidT h H).get? b=none:=PySem.W.hideAll_none (trk h H) hm
    rw [z] at e;cases e
def allNews (g h:Heap)(L:Addr):List (Addr × Obj):=(List.range h.objs.size).filterMap fun a=>if a=L∨(g.get? a).isSome=true then none else (h.get? a).map fun o=>(a,o)
def rest (g h:Heap)(L d:Addr):List (Addr × Obj):=(allNews g h L).filter fun p=>decide (p.1≠d)
end L2
namespace L2
open PySem PySem.Spec PyProof.Rows
structure Mod (K:PySem.W.Frag)(mg:Str→Option Value)(base:Heap):Prop where
  kin:K.In base
  glob:base.Ns mainGlobals mg
  blt:∃ mb,base.Ns builtinsNs mb∧∀ x:Str,x≠"__name__"→mb x=bootBuiltins x
  nolimit:base.NoLimit
structure Cx where
  prog:Program
  w:World
  K:PySem.W.Frag
  mg:Str→Option Value
  base:Heap
  A:Around
  N:List Str
  s₀:Shared
  H₀:Hp
  env:Env
  outer:List Env
  stack:List Env
  ex:List Addr
  fn:Str→Bool
  calm:Bool
  pn:List (Addr × Obj)
  xe:Value→Shared→Prop
def frs (l:List Env):List Addr:=l.filterMap (·.frame)
abbrev Cx.fs (X:Cx):List Addr:=frs X.outer
def Vis (sc:Scope)(x:Str):Prop:=sc.names.lookup x=some .local∨sc.names.lookup x=some .cell∨sc.names.lookup x=some .free
def Loc (sc:Scope)(x:Str):Prop:=sc.names.lookup x=some .local∨sc.names.lookup x=some .cell
def Look (env:Env)(h:Heap)(m:Str→Option Value)(x:Str)(u:Value):Prop :=
  (env.kindOf x=some .local∧m x=some u)∨((env.kindOf x=some .cell∨env.kindOf x=some .free)∧∃ c,env.cells.lookup x=some c∧h.IsCell c (some u))
structure Cx.Ok (X:Cx):Prop where
  mod:Mod X.K X.mg X.base
  kind:X.env.scope.kind=.function
  glob:X.env.globals=mainGlobals
  blt:X.env.builtins=builtinsNs
  above:X.s₀.heap.objs.size≤X.env.locals
  inj:∀ x y c,X.env.cells.lookup x=some c→X.env.cells.lookup y=some c→x=y
  has:∀ x,(X.env.kindOf x=some .cell∨X.env.kindOf x=some .free)→∃ c,X.env.cells.lookup x=some c
  cab:∀ x c,X.fn x=true→X.env.cells.lookup x=some c→X.s₀.heap.objs.size≤c
  hd:X.calm=true→X.A.handled=none
  frames:X.A.frames=some X.stack
  stk:X.stack=X.outer∨(X.stack=X.env::X.outer∧X.env.frame=some X.env.locals)
  exf:∀ b∈X.ex,b≠X.env.locals∧∀ x c,X.env.cells.lookup x=some c→c≠b
  bs:∀ b o,X.base.get? b=some o→X.s₀.heap.get? b=some o∧X.H₀ b=none
  bsz:X.base.objs.size≤X.s₀.heap.objs.size
  noex:∀ b o,X.base.get? b=some o→b∉X.ex
  exfs:∀ b∈X.ex,b∉X.fs
  funs:X.s₀.heap.FunFrames X.base X.outer
  frf:∀ b∈X.fs,X.H₀ b=none
structure Inv (X:Cx)(pins:List (Addr × Obj))(σ:List (Option V))(H:Hp)(s:Shared):Prop where
  ok:X.Ok
  os:s.os=X.s₀.os
  bare:AllBare s.gens
  base:Un X.fs X.ex X.H₀ H X.s₀.heap s.heap
  loc:∃ m,s.heap.Ns X.env.locals m∧∀ (i:Nat) (x:Str) (v:V),X.N[i]?=some x→σ[i]?=some (some v)→Vis X.env.scope x→∃ u,RelV v u∧Look X.env s.heap m x u
  cell:∀ x c,X.env.cells.lookup x=some c→∃ v,s.heap.IsCell c v
  free:H X.env.locals=none
  freeC:∀ x c,X.env.cells.lookup x=some c→H c=none
  pin:∀ p∈X.pn++pins,s.heap.get? p.1=some p.2∧H p.1=none∧p.1≠X.env.locals∧p.1∉X.fs∧∀ v,p.2.data≠.cell v
  hok:HOk X.prog X.w H s.heap
  len:σ.length=X.N.length
section
variable {X:Cx}{pins:List (Addr × Obj)}{σ:List (Option V)}{H H':Hp}{s:Shared}{h':Heap}
theorem Cx.Ok.nofr (ok:X.Ok){b:Addr}{o:Obj}(e:X.base.get? b=some o):b∉X.fs:=fun hb=>by
  have:=(ok.funs.mem hb).1
  rw [e] at this;cases this
theorem Inv.bs (I:Inv X pins σ H s):∀ b o,X.base.get? b=some o→s.heap.get? b=some o∧H b=none:=fun b o e =>
  ⟨I.base.keep b o (I.ok.bs b o e).1 (I.ok.bs b o e).2 (I.ok.nofr e) (I.ok.noex b o e),I.base.free b o (I.ok.bs b o e).1 (I.ok.bs b o e).2 (I.ok.noex b o e)⟩
theorem Inv.bk (I:Inv X pins σ H s):∀ b o,X.base.get? b=some o→s.heap.get? b=some o:=fun b o e=>(I.bs b o e).1
theorem Inv.mod (I:Inv X pins σ H s):Mod X.K X.mg X.base:=I.ok.mod
theorem Inv.kIn (I:Inv X pins σ H s):X.K.In s.heap:=I.ok.mod.kin.keeps I.bk
theorem Inv.lt (I:Inv X pins σ H s):X.env.locals<s.heap.objs.size:=let ⟨_,hn,_⟩:=I.loc;hn.lt
theorem Inv.sz (I:Inv X pins σ H s):X.s₀.heap.objs.size≤s.heap.objs.size:=Nat.le_trans I.ok.above (Nat.le_of_lt I.lt)
theorem Inv.nofs (I:Inv X pins σ H s){a:Addr}(h:s.heap.objs.size≤a):a∉X.fs:=fun hb=>by
  obtain ⟨_,o,ho,_⟩:=I.ok.funs.mem hb
  exact absurd (Nat.lt_of_lt_of_le (Heap.lt_size ho) (Nat.le_trans I.sz h)) (Nat.lt_irrefl _)
theorem Inv.cne (I:Inv X pins σ H s):∀ x c,X.env.cells.lookup x=some c→c≠X.env.locals:=fun x c e z=>by
  obtain ⟨v,o,ho,hd⟩:=I.cell x c e
  obtain ⟨m,⟨o',es,ep,ho',hd',_⟩,_⟩:=I.loc
  rw [z,ho'] at ho;cases ho;rw [hd'] at hd;cases hd
theorem Inv.funs (I:Inv X pins σ H s):s.heap.FunFrames X.base X.outer:=by
  have all:∀ (l:List Env),(∀ b∈frs l,b∈X.fs)→X.s₀.heap.FunFrames X.base l→s.heap.FunFrames X.base l:=by
    intro l
    induction l with
    | nil=>intro _ _;trivial
    | cons env r ih =>
      intro hs hl
      obtain ⟨hk,⟨L,o,hf,hn,ho,hd⟩,hr⟩:=hl
      have hL:L∈X.fs:=hs L (by unfold frs;rw [List.filterMap_cons,hf];exact List.mem_cons_self)
      obtain ⟨sl,e⟩:=I.base.slot L o ho (I.ok.frf L hL) hL fun z=>I.ok.exfs L z hL
      exact ⟨hk,⟨L,_,hf,hn,e,hd⟩,ih (fun b hb=>hs b (by unfold frs;rw [List.filterMap_cons,hf];exact List.mem_cons_of_mem _ hb)) hr⟩
  exact all X.outer (fun _ hb=>hb) I.ok.funs
theorem Inv.stack (I:Inv X pins σ H s):s.heap.FunFrames X.base X.stack:=by
  rcases I.ok.stk with e | ⟨e,hf⟩
  · rw [e];exact I.funs
  · rw [e]
    obtain ⟨m,hn,_⟩:=I.loc
    refine .cons (by rw [I.ok.kind];decide) hf hn ?_ I.funs
    exact Heap.get?_none_of_le (Nat.le_trans I.ok.bsz I.ok.above)
theorem Inv.stkSub (I:Inv X pins σ H s):∀ b∈frs X.stack,b∈X.env.locals::X.fs:=fun b hb=>by
  rcases I.ok.stk with e | ⟨e,hf⟩
  · rw [e] at hb;exact List.mem_cons_of_mem _ hb
  · rw [e] at hb
    unfold frs at hb
    rw [List.filterMap_cons,hf] at hb
    exact hb
theorem Inv.stkFree (I:Inv X pins σ H s):∀ b∈frs X.stack,H b=none:=fun b hb=>by
  rcases List.mem_cons.mp (I.stkSub b hb) with e | hb
  · rw [e];exact I.free
  · obtain ⟨_,o,ho,_⟩:=I.ok.funs.mem hb
    exact I.base.free b o ho (I.ok.frf b hb) fun z=>I.ok.exfs b z hb
theorem Inv.step {g':Array GenState}{t':Nat}{d':Drawn}{ch:List Addr}(I:Inv X pins σ H s)
    (hch:∀ b∈ch,(b∈X.ex∨X.s₀.heap.objs.size≤b)∧b≠X.env.locals∧(∀ x c,X.env.cells.lookup x=some c→c≠b)∧∀ p∈X.pn++pins,p.1≠b)
    (keep:∀ b o,b≠X.env.locals→b∉X.fs→b∉ch→s.heap.get? b=some o→H b=none→h'.get? b=some o)
    (slot:∀ b o,b≠X.env.locals→b∈X.fs→b∉ch→s.heap.get? b=some o→H b=none→∃ sl,h'.get? b=some { o with slots:=sl }) (free:∀ b o,b∉ch→s.heap.get? b=some o→H b=none→H' b=none)
    (there:∀ b o,b∉ch→s.heap.get? b=some o→∃ o',h'.get? b=some o')
    (tups:∀ b xs,H b=some (.tup xs)→H' b=some (.tup xs)) (frzs:∀ b o u,H b=some (.frz o u)→H' b=some (.frz o u)) (tbls:∀ b ps,H b=some (.tbl ps)→∃ more,H' b=some (.tbl (ps++more)))
    (ns:∀ m,s.heap.Ns X.env.locals m→h'.Ns X.env.locals m) (hok:HOk X.prog X.w H' h') (hg:AllBare g') :
    Inv X pins σ H' { s with heap:=h',gens:=g',drawn:=d',toks:=t' }:=by
  have neL:∀ b o,X.s₀.heap.get? b=some o→b≠X.env.locals:=fun b o e=>Nat.ne_of_lt (Nat.lt_of_lt_of_le (Heap.lt_size e) I.ok.above)
  have neC:∀ b o,X.s₀.heap.get? b=some o→b∉X.ex→b∉ch:=fun b o e hx hb=>by
    rcases (hch b hb).1 with z | z
    · exact hx z
    · exact absurd (Nat.lt_of_lt_of_le (Heap.lt_size e) z) (Nat.lt_irrefl _)
  have cellK:∀ x c,X.env.cells.lookup x=some c→∀ v,s.heap.IsCell c v→h'.IsCell c v:=fun x c e v ⟨o,ho,hd⟩=>by
    have nch:c∉ch:=fun z=>(hch c z).2.2.1 x c e rfl
    by_cases hc:c∈X.fs
    · obtain ⟨sl,q⟩:=slot c o (I.cne x c e) hc nch ho (I.freeC x c e)
      exact ⟨_,q,hd⟩
    · exact ⟨o,keep c o (I.cne x c e) hc nch ho (I.freeC x c e),hd⟩
  refine ⟨I.ok,I.os,hg,⟨fun b o e n hb hx=>?_,fun b o e n hb hx=>?_,fun b o e n hx=>?_,fun b o e hx=>?_,fun b xs e=>tups b xs (I.base.tups b xs e),fun b o xs e=>frzs b o xs (I.base.frzs b o xs e),fun b ps e=>?_⟩,?_,fun x c e=>?_,?_,fun x c e=>?_,fun p hp=>?_,hok,I.len⟩
  · exact keep b o (neL b o e) hb (neC b o e hx) (I.base.keep b o e n hb hx) (I.base.free b o e n hx)
  · obtain ⟨sl,e1⟩:=I.base.slot b o e n hb hx
    obtain ⟨sl',e2⟩:=slot b _ (neL b o e) hb (neC b o e hx) e1 (I.base.free b o e n hx)
    exact ⟨sl',e2⟩
  · obtain ⟨o',e1⟩:=I.base.there b o e hx
    exact free b o' (neC b o e hx) e1 (I.base.free b o e n hx)
  · obtain ⟨o',e1⟩:=I.base.there b o e hx
    exact there b o' (neC b o e hx) e1
  · obtain ⟨m1,e1⟩:=I.base.tbls b ps e
    obtain ⟨m2,e2⟩:=tbls b _ e1
    exact ⟨m1++m2,by rw [e2,Array.append_assoc]⟩
  · obtain ⟨m,hn,hl⟩:=I.loc
    refine ⟨m,ns m hn,fun i x v e1 e2 e3=>?_⟩
    obtain ⟨u,r,l⟩:=hl i x v e1 e2 e3
    refine ⟨u,r,?_⟩
    rcases l with l | ⟨k,c,e,z⟩
    · exact .inl l
    · exact .inr ⟨k,c,e,cellK x c e _ z⟩
  · obtain ⟨v,z⟩:=I.cell x c e
    exact ⟨v,cellK x c e v z⟩
  · obtain ⟨m,⟨o,_,_,ho,_⟩,_⟩:=I.loc
    exact free _ o (fun z=>(hch _ z).2.1 rfl) ho I.free
  · obtain ⟨v,o,ho,hd⟩:=I.cell x c e
    exact free c o (fun z=>(hch c z).2.2.1 x c e rfl) ho (I.freeC x c e)
  · obtain ⟨e,n,ne,nf,d⟩:=I.pin p hp
    have nch:p.1∉ch:=fun z=>(hch p.1 z).2.2.2 p hp rfl
    exact ⟨keep p.1 p.2 ne nf nch e n,free p.1 p.2 nch e n,ne,nf,d⟩
theorem Inv.un {t':Nat}(I:Inv X pins σ H s)(u:Un X.fs [] H H' s.heap h')(hok:HOk X.prog X.w H' h'):Inv X pins σ H' { s with heap:=h',toks:=t' }:=by
  obtain ⟨m,⟨o,es,ep,ho,r⟩,_⟩:=id I.loc
  obtain ⟨sl,hL⟩:=u.any ho I.free (by simp)
  exact I.step (g':=s.gens) (d':=s.drawn) (ch:=[]) (fun _ z=>nomatch z) (fun b o _ hb _ e n=>u.keep b o e n hb (by simp)) (fun b o _ hb _ e n=>u.slot b o e n hb (by simp)) (fun b o _ e n=>u.free b o e n (by simp)) (fun b o _ e=>u.there b o e (by simp)) u.tups u.frzs u.tbls (fun m' hm=>by
    obtain ⟨o',es',ep',ho',r'⟩:=hm
    rw [ho] at ho';cases ho'
    exact ⟨_,es',ep',hL,r'⟩) hok I.bare
theorem Inv.call {g':Array GenState}{t':Nat}{d':Drawn}{ch:List Addr}(I:Inv X pins σ H s)(u:Un (frs X.stack) ch H H' s.heap h')(hok:HOk X.prog X.w H' h')(hg:AllBare g')
    (hch:∀ b∈ch,(b∈X.ex∨X.s₀.heap.objs.size≤b)∧b≠X.env.locals∧(∀ x c,X.env.cells.lookup x=some c→c≠b)∧∀ p∈X.pn++pins,p.1≠b) :
    Inv X pins σ H' { s with heap:=h',gens:=g',drawn:=d',toks:=t' }:=by
  obtain ⟨m,⟨o,es,ep,ho,r⟩,_⟩:=id I.loc
  obtain ⟨sl,hL⟩:=u.any ho I.free fun z=>(hch _ z).2.1 rfl
  exact I.step (ch:=ch) hch (fun b o hL hb hc e n=>u.keep b o e n (fun z=>(List.mem_cons.mp (I.stkSub b z)).elim hL hb) hc) (fun b o _ _ hc e n=>u.any e n hc) (fun b o hc e n=>u.free b o e n hc) (fun b o hc e=>u.there b o e hc) u.tups u.frzs u.tbls (fun m' hm=>by
    obtain ⟨o',es',ep',ho',r'⟩:=hm
    rw [ho] at ho';cases ho'
    exact ⟨_,es',ep',hL,r'⟩) hok hg
theorem Inv.turned {t':Nat}{it:Addr}(I:Inv X pins σ H s)(k:∀ b o,b≠it→s.heap.get? b=some o→h'.get? b=some o)(hn:H it=none)(hL:it≠X.env.locals)
    (h1:it∈X.ex∨X.s₀.heap.objs.size≤it) (h2:∀ x c,X.env.cells.lookup x=some c→c≠it) (h3:∀ p∈X.pn++pins,p.1≠it):Inv X pins σ H { s with heap:=h',toks:=t' }:=by
  have nit:∀ b u,H b=some u→b≠it:=fun b u e z=>by rw [z,hn] at e;cases e
  refine I.step (g':=s.gens) (d':=s.drawn) (ch:=[it]) (fun b hb=>?_) (fun b o _ _ hc e _=>k b o (fun z=>hc (by simp [z])) e) (fun b o _ _ hc e _=>⟨o.slots,k b o (fun z=>hc (by simp [z])) e⟩) (fun _ _ _ _ n=>n)
    (fun b o hc e=>⟨o,k b o (fun z=>hc (by simp [z])) e⟩) (fun _ _ e=>e) (fun _ _ _ e=>e) (fun b ps e=>⟨#[],by rw [e];simp⟩) (fun m hm=>?_) (fun b u e=>?_) I.bare
  · have e:b=it:=by simpa using hb
    subst e
    exact ⟨h1,hL,h2,h3⟩
  · obtain ⟨o,es,ep,ho,r⟩:=hm
    exact ⟨o,es,ep,k _ o (Ne.symm hL) ho,r⟩
  · refine (I.hok b u e).stay (fun c v hc q=>k c v ?_ q) (fun _ q=>q) fun _ _ q=>q
    rcases hc with z | z
    · rw [z];exact nit b u e
    · exact nit c _ z
theorem Inv.tok (I:Inv X pins σ H s)(t:Nat):Inv X pins σ H { s with toks:=t }:=I.un (h':=s.heap) (t':=t) Un.refl I.hok
theorem Inv.kept {t':Nat}(I:Inv X pins σ H s)(k:∀ b u,s.heap.get? b=some u→h'.get? b=some u):Inv X pins σ H { s with heap:=h',toks:=t' }:=I.un (Un.kept k) (I.hok.kept k)
theorem Inv.laid {a:Addr}{o:HO}{t':Nat}(I:Inv X pins σ H s)(k:∀ b u,s.heap.get? b=some u→h'.get? b=some u)(hp:s.heap.objs.size≤a)(new:ObjOk X.prog X.w (upd H a o) h' a o) :
    Inv X pins σ (upd H a o) { s with heap:=h',toks:=t' }:=I.un (Un.laid k hp (I.hok.fresh hp)) (I.hok.laid k hp new)
theorem Inv.write {x e:Addr}{o:HO}{t':Nat}(I:Inv X pins σ H s)(mu:Mut (H x))(he:e=x∨H e=some (.own x))(k:∀ b u,b≠e→s.heap.get? b=some u→h'.get? b=some u)(heo:∃ u,h'.get? e=some u)
    (new:ObjOk X.prog X.w (upd H x o) h' x o):Inv X pins σ (upd H x o) { s with heap:=h',toks:=t' }:=I.un (Un.write mu he k heo) (I.hok.write mu he k heo new)
theorem Inv.weak {σ':List (Option V)}(I:Inv X pins σ H s)(hl:σ'.length=σ.length)(w:∀ (i:Nat) v,σ'[i]?=some (some v)→σ[i]?=some (some v)):Inv X pins σ' H s :=
  ⟨I.ok,I.os,I.bare,I.base,let ⟨m,hn,hl'⟩:=I.loc;⟨m,hn,fun i x v e1 e2 e3=>hl' i x v e1 (w i v e2) e3⟩,I.cell,I.free,I.freeC,I.pin,I.hok,hl.trans I.len⟩
theorem Inv.pins_of {pins':List (Addr × Obj)}(I:Inv X pins σ H s)(h:∀ p∈pins',s.heap.get? p.1=some p.2∧H p.1=none∧p.1≠X.env.locals∧p.1∉X.fs∧∀ v,p.2.data≠.cell v):Inv X pins' σ H s :=
  ⟨I.ok,I.os,I.bare,I.base,I.loc,I.cell,I.free,I.freeC,fun p hp=>(List.mem_append.mp hp).elim (fun z=>I.pin p (List.mem_append_left _ z)) (h p),I.hok,I.len⟩
theorem nodup_ix {N:List Str}(hN:N.Nodup){i j:Nat}{x:Str}(a:N[i]?=some x)(b:N[j]?=some x):i=j:=by
  obtain ⟨h1,e1⟩:=List.getElem?_eq_some_iff.mp a
  obtain ⟨h2,e2⟩:=List.getElem?_eq_some_iff.mp b
  exact (List.getElem_inj hN).mp (e1.trans e2.symm)
theorem store_ok2 {M:Model} {A:Around} {E:Value→Shared→Prop} {i:Nat} {x:Str} {v:V} {u:Value} {Q:Unit→Shared→Prop} (I:Inv X pins σ H s) (hN:X.N.Nodup) (hi:X.N[i]?=some x) (hx:Loc X.env.scope x) (r:RelV v u)
    (h:∀ s',Inv X pins (σ.set i (some v)) H s'→(∃ a,Heap.SameBut a s.heap s'.heap∧(a=X.env.locals∨X.env.cells.lookup x=some a))→Q () s') (hf:X.fn x=true∨X.env.scope.names.lookup x=some .local:=by first | exact .inl rfl | exact .inr rfl | assumption):wpAny M A (storeName X.env x u) Q E s:=by
  obtain ⟨m,hn,hl⟩:=id I.loc
  have hcls:(X.env.scope.kind==.class||(X.env.scope.kind==.module&&X.env.locals != X.env.globals))=false:=by rw [I.ok.kind];rfl
  have hiσ:i<σ.length:=by rw [I.len];exact (List.getElem?_eq_some_iff.mp hi).1
  have cne:=I.cne
  have tracked:∀ {a:Addr} {h':Heap},(∃ o,s.heap.get? a=some o∧H a=none)→Heap.SameBut a s.heap h'→HOk X.prog X.w H h':=fun {a h'} ha hs b ob e=>by
    obtain ⟨_,_,hfree⟩:=ha
    refine (I.hok b ob e).stay (fun c w' hc q=>(hs.2 c ?_).trans q) (fun _ q=>q) fun _ _ q=>q
    rintro rfl
    rcases hc with rfl | hc
    · rw [hfree] at e;cases e
    · rw [hfree] at hc;cases hc
  rcases hx with hk | hk
  · refine wpAny_storeName_local hk hn (fun h' hn' hs=>?_) hcls
    obtain ⟨oL,_,_,hoL,_⟩:=id hn
    refine h _ ⟨I.ok,I.os,I.bare,⟨fun b o e n hb hx=>?_,fun b o e n hb hx=>?_,I.base.free,fun b o e hx=>?_,I.base.tups,I.base.frzs,I.base.tbls⟩,⟨_,hn',fun j y v' e1 e2 e3=>?_⟩,fun y c e=>?_,I.free,I.freeC,fun p hp=>?_,tracked ⟨oL,hoL,I.free⟩ hs,by simpa using I.len⟩ ⟨_,hs,.inl rfl⟩
    · exact (hs.2 b (Nat.ne_of_lt (Nat.lt_of_lt_of_le (Heap.lt_size e) I.ok.above))).trans (I.base.keep b o e n hb hx)
    · obtain ⟨sl,e1⟩:=I.base.slot b o e n hb hx
      exact ⟨sl,(hs.2 b (Nat.ne_of_lt (Nat.lt_of_lt_of_le (Heap.lt_size e) I.ok.above))).trans e1⟩
    · obtain ⟨o',e1⟩:=I.base.there b o e hx
      exact ⟨o',(hs.2 b (Nat.ne_of_lt (Nat.lt_of_lt_of_le (Heap.lt_size e) I.ok.above))).trans e1⟩
    · by_cases hj:j=i
      · subst hj
        rw [hi] at e1;cases e1
        rw [List.getElem?_set_self hiσ] at e2
        cases e2
        exact ⟨u,r,.inl ⟨hk,by simp⟩⟩
      · rw [List.getElem?_set_ne (Ne.symm hj)] at e2
        obtain ⟨u',r',q⟩:=hl j y v' e1 e2 e3
        refine ⟨u',r',?_⟩
        rcases q with ⟨k,e⟩ | ⟨k,c,e,z⟩
        · refine .inl ⟨k,?_⟩
          have:y≠x:=fun e=>hj (nodup_ix hN e1 (e ▸ hi))
          simp [this,e]
        · exact .inr ⟨k,c,e,z.sameBut hs (cne y c e)⟩
    · obtain ⟨w',z⟩:=I.cell y c e
      exact ⟨w',z.sameBut hs (cne y c e)⟩
    · obtain ⟨e,n,ne,nf,d⟩:=I.pin p hp
      exact ⟨(hs.2 p.1 ne).trans e,n,ne,nf,d⟩
  · have hfn:X.fn x=true:=by
      rcases hf with z | z
      · exact z
      · rw [z] at hk;cases hk
    obtain ⟨c,hc⟩:=I.ok.has x (.inl hk)
    obtain ⟨w',z⟩:=I.cell x c hc
    refine wpAny_storeName_cell I.ok.kind hk hc z (fun h' hc' hs=>?_)
    obtain ⟨oc,hoc,hocd⟩:=id z
    refine h { s with heap:=h' } ⟨I.ok,I.os,I.bare,⟨fun b o e n hb hx=>?_,fun b o e n hb hx=>?_,I.base.free,fun b o e hx=>?_,I.base.tups,I.base.frzs,I.base.tbls⟩,⟨m,hn.sameBut hs (Ne.symm (cne x c hc)),fun j y v' e1 e2 e3=>?_⟩,fun y c' e=>?_,I.free,I.freeC,fun p hp=>?_,tracked ⟨oc,hoc,I.freeC x c hc⟩ hs,by simpa using I.len⟩ ⟨c,hs,.inr hc⟩
    · exact (hs.2 b (Nat.ne_of_lt (Nat.lt_of_lt_of_le (Heap.lt_size e) (I.ok.cab x c hfn hc)))).trans (I.base.keep b o e n hb hx)
    · obtain ⟨sl,e1⟩:=I.base.slot b o e n hb hx
      exact ⟨sl,(hs.2 b (Nat.ne_of_lt (Nat.lt_of_lt_of_le (Heap.lt_size e) (I.ok.cab x c hfn hc)))).trans e1⟩
    · obtain ⟨o',e1⟩:=I.base.there b o e hx
      exact ⟨o',(hs.2 b (Nat.ne_of_lt (Nat.lt_of_lt_of_le (Heap.lt_size e) (I.ok.cab x c hfn hc)))).trans e1⟩
    · by_cases hj:j=i
      · subst hj
        rw [hi] at e1;cases e1
        rw [List.getElem?_set_self hiσ] at e2
        cases e2
        exact ⟨u,r,.inr ⟨.inl hk,c,hc,hc'⟩⟩
      · rw [List.getElem?_set_ne (Ne.symm hj)] at e2
        obtain ⟨u',r',q⟩:=hl j y v' e1 e2 e3
        refine ⟨u',r',?_⟩
        rcases q with q | ⟨k,c',e,z'⟩
        · exact .inl q
        · refine .inr ⟨k,c',e,z'.sameBut hs ?_⟩
          rintro rfl
          exact hj (nodup_ix hN e1 (I.ok.inj _ _ _ e hc ▸ hi))
    · by_cases hcc:c'=c
      · subst hcc;exact ⟨_,hc'⟩
      · obtain ⟨w2,z2⟩:=I.cell y c' e
        exact ⟨w2,z2.sameBut hs hcc⟩
    · obtain ⟨e,n,ne,nf,d⟩:=I.pin p hp
      refine ⟨(hs.2 p.1 ?_).trans e,n,ne,nf,d⟩
      intro q
      rw [q,hoc] at e
      have q':oc=p.2:=Option.some.inj e
      exact d w' (by rw [← q'];exact hocd)
theorem store_ok {M:Model}{A:Around}{E:Value→Shared→Prop}{i:Nat}{x:Str}{v:V}{u:Value}{Q:Unit→Shared→Prop}(I:Inv X pins σ H s)(hN:X.N.Nodup)(hi:X.N[i]?=some x)(hx:Loc X.env.scope x)(r:RelV v u)
    (h:∀ s',Inv X pins (σ.set i (some v)) H s'→Q () s') (hf:X.fn x=true∨X.env.scope.names.lookup x=some .local:=by first | exact .inl rfl | exact .inr rfl | assumption):wpAny M A (storeName X.env x u) Q E s :=
  store_ok2 I hN hi hx r (fun s' I' _=>h s' I') hf
theorem Inv.call' {s':Shared}{ch:List Addr}(I:Inv X pins σ H s)(ho:s'.os=s.os)(u:Un (frs X.stack) ch H H' s.heap s'.heap)(hok:HOk X.prog X.w H' s'.heap)(hg:AllBare s'.gens)
    (hch:∀ b∈ch,(b∈X.ex∨X.s₀.heap.objs.size≤b)∧b≠X.env.locals∧(∀ x c,X.env.cells.lookup x=some c→c≠b)∧∀ p∈X.pn++pins,p.1≠b):Inv X pins σ H' s':=by
  obtain ⟨h',g',d',t',o'⟩:=s'
  have e:o'=s.os:=ho
  subst e
  exact I.call (g':=g') (t':=t') (d':=d') u hok hg hch
end
abbrev XK:=Value→Option Addr→Hp→Prop
abbrev St:=List (Option V)
abbrev VK:=V→Hp→Prop
abbrev TE:=St→Hp→VK→Prop
abbrev TT:=St→Hp→(Bool→Hp→Prop)→Prop
abbrev TA:=St→Hp→(List V→Hp→Prop)→Prop
structure Ends where
  nx:St→Hp→Prop
  rt:VK
  bk:St→Hp→Prop:=fun _ _=>False
  ct:St→Hp→Prop:=fun _ _=>False
abbrev TS:=Ends→St→Hp→Prop
def EP (X:Cx)(pins:List (Addr × Obj))(σ:St)(Q:VK)(u:Value)(s':Shared):Prop:=∃ v H',Inv X pins σ H' s'∧RelV v u∧Q v H'
def TP (X:Cx)(pins:List (Addr × Obj))(σ:St)(Q:Bool→Hp→Prop)(b:Bool)(s':Shared):Prop:=∃ H',Inv X pins σ H' s'∧Q b H'
def AP (X:Cx)(pins:List (Addr × Obj))(σ:St)(Q:List V→Hp→Prop)(us:List Value)(s':Shared):Prop:=∃ vs H',Inv X pins σ H' s'∧Vals vs us∧Q vs H'
def SP (X:Cx)(pins:List (Addr × Obj))(D:Ends)(f:Flow)(s':Shared):Prop :=
  match f with
  | .next=>∃ σ' H',Inv X pins σ' H' s'∧D.nx σ' H'
  | .brk=>∃ σ' H',Inv X pins σ' H' s'∧D.bk σ' H'
  | .cont=>∃ σ' H',Inv X pins σ' H' s'∧D.ct σ' H'
  | .ret u=>∃ v σ' H',Inv X pins σ' H' s'∧RelV v u∧D.rt v H'
def PE (X:Cx)(e:Expr)(t:TE):Prop :=
  ∀ (pins:List (Addr × Obj)) (s:Shared) (σ:St) (H:Hp) (Q:VK),Inv X pins σ H s→t σ H Q→wpAny (model X.prog X.w) X.A (eval e X.env) (EP X pins σ Q) X.xe s
def PT (X:Cx)(e:Expr)(t:TT):Prop :=
  ∀ (pins:List (Addr × Obj)) (s:Shared) (σ:St) (H:Hp) (Q:Bool→Hp→Prop),Inv X pins σ H s→t σ H Q→wpAny (model X.prog X.w) X.A (isTrue e X.env (eval e X.env)) (TP X pins σ Q) X.xe s
def PW (X:Cx)(e:Expr)(t:TT):Prop :=
  ∀ (whole:Sem Value) (pins:List (Addr × Obj)) (s:Shared) (σ:St) (H:Hp) (Q:Bool→Hp→Prop),Inv X pins σ H s→t σ H Q→wpAny (model X.prog X.w) X.A (isTrue e X.env whole) (TP X pins σ Q) X.xe s
theorem PW.pt {X:Cx}{e:Expr}{t:TT}(h:PW X e t):PT X e t:=h _
def PA (X:Cx)(es:List Expr)(t:TA):Prop :=
  ∀ (pos:Pos) (pins:List (Addr × Obj)) (s:Shared) (σ:St) (H:Hp) (Q:List V→Hp→Prop),Inv X pins σ H s→t σ H Q→wpAny (model X.prog X.w) X.A (spliced (backTo pos (starEach es X.env))) (AP X pins σ Q) X.xe s
def PS (X:Cx)(st:Stmt)(t:TS):Prop :=
  ∀ (pins:List (Addr × Obj)) (s:Shared) (σ:St) (H:Hp) (D:Ends),Inv X pins σ H s→t D σ H→wpAny (model X.prog X.w) X.A (exec st X.env) (SP X pins D) X.xe s
def PSs (X:Cx)(st:List Stmt)(t:TS):Prop :=
  ∀ (pins:List (Addr × Obj)) (s:Shared) (σ:St) (H:Hp) (D:Ends),Inv X pins σ H s→t D σ H→wpAny (model X.prog X.w) X.A (execs st X.env) (SP X pins D) X.xe s
theorem thn {α:Type}{t:Sem α}{Q Q':α→Shared→Prop}{M:Model}{A:Around}{E:Value→Shared→Prop}{s:Shared}(h:wpAny M A t Q E s)(hQ:∀ a s,Q a s→Q' a s):wpAny M A t Q' E s:=wpAny_mono h hQ fun _ _ x=>x
end L2
namespace L2
open PySem PySem.Spec PyProof.Rows
section
variable {X:Cx}
def tVar (i:Nat):TE:=fun σ H Q=>∃ v,σ[i]?=some (some v)∧Q v H
def tC (v:V):TE:=fun _ H Q=>Q v H
theorem pe_var {i:Nat}{x:Str}{pos:Pos}(hN:X.N[i]?=some x)(hv:Vis X.env.scope x)(hd:(x==("__debug__":Str))=false:=by decide)(hcd:(x==("__classdict__":Str))=false:=by decide):PE X (.Name x pos) (tVar i):=by
  intro pins s σ H Q I h
  obtain ⟨v,e,h⟩:=h
  obtain ⟨m,hn,hl⟩:=I.loc
  obtain ⟨u,r,l⟩:=hl i x v hN e hv
  have fin:EP X pins σ Q u s:=⟨v,H,I,r,h⟩
  rcases l with ⟨hk,hm⟩ | ⟨hk,c,hc,hcell⟩
  · exact wpAny_Name (wpAny_loadName_local I.ok.kind hk hn hm fin) hd
  · rcases hk with hk | hk
    · exact wpAny_Name (wpAny_loadName_cell I.ok.kind hk hc hcell fin) hd
    · exact wpAny_Name (wpAny_loadName_free I.ok.kind hk hc hcell fin hcd) hd
theorem pe_int {i j pos}:PE X (.Constant (.int i) j pos) (tC (.int i)):=fun _ _ _ H _ I h=>wpAny_Constant_int ⟨.int i,H,I.tok _,⟨_,rfl⟩,h⟩
theorem pe_bl {b j pos}:PE X (.Constant (.bool b) j pos) (tC (.bl b)):=fun _ _ _ H _ I h=>Constant_bool ⟨.bl b,H,I,rfl,h⟩
theorem pe_non {j pos}:PE X (.Constant .none j pos) (tC .non):=fun _ _ _ H _ I h=>Constant_none ⟨.non,H,I,rfl,h⟩
theorem pe_str {x j pos}:PE X (.Constant (.str x) j pos) (tC (.str x)):=fun _ _ _ H _ I h=>Calls.Constant_str ⟨.str x,H,I.tok _,⟨_,rfl⟩,h⟩
def Gl (X:Cx)(x:Str):Prop:=X.env.kindOf x=some .globalImplicit
theorem ld_glob {E:Value→Shared→Prop}{pins:List (Addr × Obj)}{s:Shared}{σ:St}{H:Hp}{x:Str}{u:Value}{pos:Pos}{Q:Value→Shared→Prop}(I:Inv X pins σ H s)(hg:Gl X x)(hm:X.mg x=some u)(h:Q u s)
    (hd:(x==("__debug__":Str))=false:=by decide):wpAny (model X.prog X.w) X.A (eval (.Name x pos) X.env) Q E s :=
  Calls.Name_function_global I.ok.kind hg (Calls.loadGlobal_global (by rw [I.ok.glob];exact I.mod.glob.keeps I.bk) hm h) hd
theorem ld_blt {E:Value→Shared→Prop}{pins:List (Addr × Obj)}{s:Shared}{σ:St}{H:Hp}{x:Str}{u:Value}{pos:Pos}{Q:Value→Shared→Prop}(I:Inv X pins σ H s)(hg:Gl X x)(hm:X.mg x=none)(hv:bootBuiltins x=some u)(h:Q u s)
    (hn:x≠"__name__":=by decide) (hd:(x==("__debug__":Str))=false:=by decide):wpAny (model X.prog X.w) X.A (eval (.Name x pos) X.env) Q E s:=by
  obtain ⟨mb,h1,h2⟩:=I.mod.blt
  exact Calls.Name_function_global I.ok.kind hg (Calls.loadGlobal_builtin (by rw [I.ok.glob];exact I.mod.glob.keeps I.bk) hm (by rw [I.ok.blt];exact h1.keeps I.bk) ((h2 x hn).trans hv) h) hd
theorem pe_bltn {x:Str}{v:V}{u:Value}{pos:Pos}(hg:Gl X x)(hm:X.mg x=none)(hv:bootBuiltins x=some u)(r:RelV v u)(hn:x≠"__name__":=by decide)(hd:(x==("__debug__":Str))=false:=by decide):PE X (.Name x pos) (tC v) :=
  fun _ _ _ H _ I h=>ld_blt I hg hm hv ⟨v,H,I,r,h⟩ hn hd
variable {a b:Expr}{ta tb:TE}{pos:Pos}
def tB (t:TE):TT:=fun σ H Q=>t σ H fun x H1=>∃ c,x=.bl c∧Q c H1
theorem pt_val {e:Expr}{t:TE}(h:PE X e t)(he:∀ whole,isTrue e X.env whole=(do let v ← whole;standAt e.pos;holding [v] (truthy v)):=by intro _;rfl):PT X e (tB t):=by
  intro pins s σ H Q I hw
  refine isTrue_plain (thn (h pins s σ H _ I hw) fun v s1 ⟨x,H1,I1,r1,q1⟩=>?_) (he _)
  obtain ⟨d,rfl,q⟩:=q1
  cases r1
  exact wpAny_truthy_bool ⟨H1,I1,q⟩
variable {tA tB':TT}{rest:List Expr}
def tAnd (t u:TT):TT:=fun σ H Q=>t σ H fun c H1=>if c=true then u σ H1 Q else Q false H1
def tOr (t u:TT):TT:=fun σ H Q=>t σ H fun c H1=>if c=true then Q true H1 else u σ H1 Q
def tNot (t:TT):TT:=fun σ H Q=>t σ H fun c H1=>Q (!c) H1
theorem pw_and1 (ha:PT X a tA):PW X (.BoolOp .And [a] pos) tA:=by
  intro wh pins s σ H Q I h
  refine isTrue_and (thn (ha pins s σ H Q I h) fun c s1 e=>?_)
  cases c with
  | true=>exact isTrue_and_nil e
  | false=>exact e
theorem pw_or1 (ha:PT X a tA):PW X (.BoolOp .Or [a] pos) tA:=by
  intro wh pins s σ H Q I h
  refine isTrue_or (thn (ha pins s σ H Q I h) fun c s1 e=>?_)
  cases c with
  | false=>exact isTrue_or_nil e
  | true=>exact e
theorem pw_and (ha:PT X a tA)(hb:PW X (.BoolOp .And (b::rest) pos) tB'):PW X (.BoolOp .And (a::b::rest) pos) (tAnd tA tB'):=by
  intro wh pins s σ H Q I h
  refine isTrue_and (thn (ha pins s σ H _ I h) fun c s1 ⟨H1,I1,q1⟩=>?_)
  cases c with
  | true=>exact hb wh pins s1 σ H1 Q I1 q1
  | false=>exact ⟨H1,I1,q1⟩
theorem pw_or (ha:PT X a tA)(hb:PW X (.BoolOp .Or (b::rest) pos) tB'):PW X (.BoolOp .Or (a::b::rest) pos) (tOr tA tB'):=by
  intro wh pins s σ H Q I h
  refine isTrue_or (thn (ha pins s σ H _ I h) fun c s1 ⟨H1,I1,q1⟩=>?_)
  cases c with
  | true=>exact ⟨H1,I1,q1⟩
  | false=>exact hb wh pins s1 σ H1 Q I1 q1
theorem pt_not (ha:PT X a tA):PT X (.UnaryOp .Not a pos) (tNot tA):=by
  intro pins s σ H Q I h
  exact isTrue_not (ha pins s σ H (fun c H1=>Q (!c) H1) I h)
def tAndV (ta tb:TE):TE:=fun σ H Q=>ta σ H fun x H1=>∃ c,x=.bl c∧if c=true then tb σ H1 Q else Q (.bl false) H1
def tNotV (ta:TE):TE:=fun σ H Q=>ta σ H fun x H1=>∃ c,x=.bl c∧Q (.bl (!c)) H1
theorem pe_one {op}{t:TE}(h:PE X a t):PE X (.BoolOp op [a] pos) t:=fun pins s σ H Q I hw=>BoolOp_one (h pins s σ H Q I hw)
theorem pe_and (ha:PE X a ta)(hb:PE X (.BoolOp .And (b::rest) pos) tb):PE X (.BoolOp .And (a::b::rest) pos) (tAndV ta tb):=by
  intro pins s σ H Q I h
  refine BoolOp_and (thn (ha pins s σ H _ I h) fun v s1 ⟨x,H1,I1,r1,q1⟩=>?_)
  obtain ⟨c,rfl,q1⟩:=q1
  cases r1
  refine wpAny_truthy_bool ?_
  cases c with
  | true=>exact hb pins s1 σ H1 Q I1 q1
  | false=>exact ⟨.bl false,H1,I1,rfl,q1⟩
theorem pe_not (ha:PE X a ta):PE X (.UnaryOp .Not a pos) (tNotV ta):=by
  intro pins s σ H Q I h
  refine UnaryOp_ (thn (ha pins s σ H _ I h) fun v s1 ⟨x,H1,I1,r1,q1⟩=>?_)
  obtain ⟨c,rfl,q1⟩:=q1
  cases r1
  exact not_of (wpAny_truthy_bool ⟨.bl (!c),H1,I1,rfl,q1⟩)
end
end L2
namespace L2
open PySem PySem.Spec PyProof.Rows
def SqL (K:PySem.W.Frag) (H:Hp) (a:Addr) (xs:List V):Prop :=
  Rd H a (.lst xs) ∨
    ∃ (o:Obj) (its:Array Value) (n:Nat),K.lookup a=some o∧o.cls=.type "list"∧o.dict=none∧o.data=.seq its n∧its.size≤sizeLine∧Vals xs its.toList
def SqT (K:PySem.W.Frag) (H:Hp) (a:Addr) (xs:List V):Prop :=
  Rd H a (.tup xs) ∨
    ∃ (o:Obj) (its:Array Value) (n:Nat),K.lookup a=some o∧o.cls=.type "tuple"∧o.data=.seq its n∧its.size≤sizeLine∧Vals xs its.toList
def absV:Value→Option V
  | .none=>some .non
  | .bool b=>some (.bl b)
  | .int i _=>some (.int i)
  | .str x _=>some (.str x)
  | .bytes b _=>some (.byt b)
  | .float b _=>some (.flt b)
  | .ref a=>some (.ref a)
  | .type n=>some (.ty n)
  | _=>none
theorem RelV.abs {x:V}{u:Value}(r:RelV x u):absV u=some x:=by
  cases x with
  | non=>cases r;rfl
  | bl _=>cases r;rfl
  | int _=>obtain ⟨t,rfl⟩:=r;rfl
  | str _=>obtain ⟨t,rfl⟩:=r;rfl
  | byt _=>obtain ⟨t,rfl⟩:=r;rfl
  | flt _=>obtain ⟨t,rfl⟩:=r;rfl
  | ref _=>cases r;rfl
  | ty _=>cases r;rfl
theorem RelV.inj {x y:V}{u:Value}(r:RelV x u)(q:RelV y u):x=y:=Option.some.inj (r.abs.symm.trans q.abs)
theorem Vals.inj:∀ {xs ys:List V} {us:List Value},Vals xs us→Vals ys us→xs=ys
  | _,_,_,.nil,.nil=>rfl
  | _,_,_,.cons r t,.cons r' t'=>by rw [r.inj r',Vals.inj t t']
section
variable {X:Cx}{pins:List (Addr × Obj)}{σ:St}{H:Hp}{s:Shared}{a:Addr}{xs ys:List V}
theorem SqL.of {K:PySem.W.Frag}(h:H a=some (.lst xs)):SqL K H a xs:=.inl (.inl h)
theorem Inv.list (I:Inv X pins σ H s)(h:SqL X.K H a xs):∃ its:List Value,Vals xs its∧PlainL s.heap a its.toArray∧xs.length≤sizeLine:=by
  rcases h with h | ⟨o,its,n,hk,hc,hd,hs,hz,r⟩
  · obtain ⟨z,its,n,r,e⟩:=h.ok I.hok
    exact ⟨its,r,⟨_,n,e,rfl,rfl,rfl⟩,z⟩
  · refine ⟨its.toList,r,⟨o,n,I.kIn a o hk,hc,hd,by simpa using hs⟩,?_⟩
    have e:=r.length
    simp only [Array.length_toList] at e
    omega
theorem Inv.tuple (I:Inv X pins σ H s)(h:SqT X.K H a xs):∃ its:List Value,Vals xs its∧IsTup s.heap a its.toArray∧xs.length≤sizeLine:=by
  rcases h with h | ⟨o,its,n,hk,hc,hs,hz,r⟩
  · obtain ⟨z,its,r,p⟩:=h.ok I.hok
    exact ⟨its,r,p,z⟩
  · refine ⟨its.toList,r,⟨o,I.kIn a o hk,hc,n,by simpa using hs⟩,?_⟩
    have e:=r.length
    simp only [Array.length_toList] at e
    omega
theorem Inv.list_inj (I:Inv X pins σ H s)(h:SqL X.K H a xs)(h':SqL X.K H a ys):xs=ys:=by
  obtain ⟨its,r,⟨o,n,e,_,_,d⟩,_⟩:=I.list h
  obtain ⟨its',r',⟨o',n',e',_,_,d'⟩,_⟩:=I.list h'
  rw [e] at e';cases e'
  rw [d] at d'
  injection d' with d1 _
  have:its=its':=by simpa using congrArg Array.toList d1
  subst this
  exact r.inj r'
end
abbrev Cx.wish (X:Cx)(E:Value→Shared→Prop):Cx:={ X with xe:=E }
abbrev Cx.nox (X:Cx):Cx:=X.wish fun _ _=>False
theorem Cx.Ok.wish {X:Cx}(ok:X.Ok)(E:Value→Shared→Prop):(X.wish E).Ok :=
  ⟨ok.mod,ok.kind,ok.glob,ok.blt,ok.above,ok.inj,ok.has,ok.cab,ok.hd,ok.frames,ok.stk,ok.exf,ok.bs,ok.bsz,ok.noex,ok.exfs,ok.funs,ok.frf⟩
theorem Cx.Ok.unwish {X:Cx}{E:Value→Shared→Prop}(ok:(X.wish E).Ok):X.Ok :=
  ⟨ok.mod,ok.kind,ok.glob,ok.blt,ok.above,ok.inj,ok.has,ok.cab,ok.hd,ok.frames,ok.stk,ok.exf,ok.bs,ok.bsz,ok.noex,ok.exfs,ok.funs,ok.frf⟩
section
variable {X:Cx}{pins:List (Addr × Obj)}{σ:St}{H:Hp}{s:Shared}{E:Value→Shared→Prop}
theorem Inv.wish (I:Inv X pins σ H s)(E:Value→Shared→Prop):Inv (X.wish E) pins σ H s:=⟨I.ok.wish E,I.os,I.bare,I.base,I.loc,I.cell,I.free,I.freeC,I.pin,I.hok,I.len⟩
theorem Inv.unwish (I:Inv (X.wish E) pins σ H s):Inv X pins σ H s:=⟨I.ok.unwish,I.os,I.bare,I.base,I.loc,I.cell,I.free,I.freeC,I.pin,I.hok,I.len⟩
theorem SP.unwish {D:Ends}{f:Flow}{s':Shared}(h:SP (X.wish E) pins D f s'):SP X pins D f s':=by
  cases f with
  | next=>obtain ⟨σ',H',I,q⟩:=h;exact ⟨σ',H',I.unwish,q⟩
  | brk=>obtain ⟨σ',H',I,q⟩:=h;exact ⟨σ',H',I.unwish,q⟩
  | cont=>obtain ⟨σ',H',I,q⟩:=h;exact ⟨σ',H',I.unwish,q⟩
  | ret u=>obtain ⟨v,σ',H',I,r,q⟩:=h;exact ⟨v,σ',H',I.unwish,r,q⟩
theorem PSs.nox {st:List Stmt}{t:TS}(h:PSs X.nox st t):PSs X st t:=fun pins s σ H D I hw =>
  wpAny_mono (h pins s σ H D (I.wish _) hw) (fun _ _ q=>q.unwish) fun _ _ z=>False.elim z
end
section
variable {X:Cx}{st:Stmt}{rest:List Stmt}{t u:TS}{e:Expr}{te:TE}{pos:Pos}
def tNext:TS:=fun D σ H=>D.nx σ H
def tSeq (t u:TS):TS:=fun D σ H=>t { D with nx:=u D } σ H
theorem pss_nil:PSs X [] tNext:=fun _ _ σ H _ I h=>wpAny_execs_nil ⟨σ,H,I,h⟩
theorem pss_cons (h1:PS X st t)(h2:PSs X rest u):PSs X (st::rest) (tSeq t u):=by
  intro pins s σ H D I h
  refine wpAny_execs_cons (thn (h1 pins s σ H { D with nx:=u D } I h) fun f s1 q=>?_)
  cases f with
  | next =>
    obtain ⟨σ',H',I',q⟩:=q
    exact h2 pins s1 σ' H' D I' q
  | ret v=>exact q
  | brk=>exact q
  | cont=>exact q
theorem pss_one (h1:PS X st t):PSs X [st] t:=by
  intro pins s σ H D I h
  refine wpAny_execs_cons (thn (h1 pins s σ H D I h) fun f s1 q=>?_)
  cases f with
  | next=>exact wpAny_execs_nil q
  | ret v=>exact q
  | brk=>exact q
  | cont=>exact q
theorem Inv.quiet {pins:List (Addr × Obj)}{σ:St}{H:Hp}{s:Shared}(I:Inv X pins σ H s):interactive X.env=false:=by simp [interactive,I.ok.kind]
def tDrop (te:TE):TS:=fun D σ H=>te σ H fun _ H1=>D.nx σ H1
theorem ps_expr (he:PE X e te)(hs:swapsWith e none pos.line X.env=pure false:=by rfl):PS X (.Expr e pos) (tDrop te):=by
  intro pins s σ H D I h
  exact wpAny_Expr_any (thn (he pins s σ H _ I h) fun v s1 ⟨x,H1,I1,r1,q1⟩=>⟨σ,H1,I1,q1⟩) I.quiet hs
def tRet (te:TE):TS:=fun D σ H=>te σ H D.rt
theorem ps_ret (he:PE X e te):PS X (.Return (some e) pos) (tRet te):=by
  intro pins s σ H D I h
  exact wpAny_Return_some (thn (he pins s σ H _ I h) fun v s1 ⟨x,H1,I1,r1,q1⟩=>⟨x,σ,H1,I1,r1,q1⟩)
def tIfS (c:TT)(t u:TS):TS:=fun D σ H=>c σ H fun b H1=>if b=true then t D σ H1 else u D σ H1
theorem ps_if {c:Expr}{a b:List Stmt}{tc:TT}(hc:PT X c tc)(ha:PSs X a t)(hb:PSs X b u):PS X (.If c a b pos) (tIfS tc t u):=by
  intro pins s σ H D I h
  refine wpAny_If (thn (hc pins s σ H _ I h) fun d s1 ⟨H1,I1,q1⟩=>?_)
  cases d with
  | true=>exact ha pins s1 σ H1 D I1 q1
  | false=>exact hb pins s1 σ H1 D I1 q1
end
abbrev TG:=V→St→Hp→(St→Hp→Prop)→Prop
abbrev TGs:=List V→St→Hp→(St→Hp→Prop)→Prop
def PG (X:Cx) (target:Expr) (t:TG):Prop :=
  ∀ (pins:List (Addr × Obj)) (s:Shared) (σ:St) (H:Hp) (v:V) (u:Value) (Q:St→Hp→Prop),Inv X pins σ H s→RelV v u→t v σ H Q →
    wpAny (model X.prog X.w) X.A (assign target X.env u) (fun _ s'=>∃ σ' H',Inv X pins σ' H' s'∧Q σ' H') X.xe s
def PGs (X:Cx) (ts:List Expr) (t:TGs):Prop :=
  ∀ (pins:List (Addr × Obj)) (s:Shared) (σ:St) (H:Hp) (vs:List V) (us:List Value) (Q:St→Hp→Prop),Inv X pins σ H s→Vals vs us→t vs σ H Q →
    wpAny (model X.prog X.w) X.A (assignInOrder ((assignEach ts X.env).map (·.2)) us) (fun _ s'=>∃ σ' H',Inv X pins σ' H' s'∧Q σ' H') X.xe s
section
variable {X:Cx}{pos:Pos}
def gName (i:Nat):TG:=fun v σ H Q=>Q (σ.set i (some v)) H
theorem pg_name {i:Nat}{x:Str}(hN:X.N.Nodup)(hi:X.N[i]?=some x)(hx:Loc X.env.scope x)(hf:X.fn x=true∨X.env.scope.names.lookup x=some .local:=by first | exact .inl rfl | exact .inr rfl | assumption):PG X (.Name x pos) (gName i):=by
  intro pins s σ H v u Q I r h
  exact wpAny_assign_Name (store_ok I hN hi hx r (fun s' I'=>⟨_,H,I',h⟩) hf)
def gNil:TGs:=fun vs σ H Q=>vs=[]∧Q σ H
def gCons (t:TG)(u:TGs):TGs:=fun vs σ H Q=>∃ v r,vs=v::r∧t v σ H fun σ' H'=>u r σ' H' Q
theorem pgs_nil:PGs X [] gNil:=by
  intro pins s σ H vs us Q I r h
  obtain ⟨e,h⟩:=h
  subst e
  cases r
  exact assignInOrder_nil ⟨σ,H,I,h⟩
theorem pgs_cons {e:Expr}{es:List Expr}{t:TG}{u:TGs}(h1:PG X e t)(h2:PGs X es u)
    (hs:(assignEach (e::es) X.env).map (·.2)=assign e X.env::(assignEach es X.env).map (·.2):=by rfl):PGs X (e::es) (gCons t u):=by
  intro pins s σ H vs us Q I r h
  obtain ⟨v,vr,e1,h⟩:=h
  subst e1
  cases r with
  | cons r rr =>
    rw [hs]
    refine assignInOrder_cons (thn (h1 pins s σ H _ _ _ I r h) fun _ s1 ⟨σ1,H1,I1,q1⟩=>?_)
    exact h2 pins s1 σ1 H1 _ _ Q I1 rr q1
def gTup (K:PySem.W.Frag)(n:Nat)(t:TGs):TG:=fun v σ H Q=>∃ a xs,v=.ref a∧SqT K H a xs∧xs.length=n∧t xs σ H Q
theorem pg_tup {es:List Expr}{k:Nat}{t:TGs}{n:Nat}(hc:X.calm=true)(h:PGs X es t)
    (hn:(assignEach es X.env).length=n:=by rfl) (hst:(assignEach es X.env).findIdx? (·.1)=none:=by rfl):PG X (.Tuple es k pos) (gTup X.K n t):=by
  intro pins s σ H v u Q I r hw
  obtain ⟨a,xs,e1,hq,hl,hw⟩:=hw
  subst e1
  cases r
  obtain ⟨its,rv,ht,hz⟩:=I.tuple hq
  refine assign_Tuple_tuple (I.ok.hd hc) ht (by simp [hn,← hl,rv.length]) hst fun h' hx=>?_
  have I1:Inv X pins σ H { s with heap:=h' }:=I.kept (t':=s.toks) fun b o e=>hx b o (Nat.ne_of_lt (Heap.lt_size e)) e
  exact h pins _ σ H xs _ Q I1 (by simpa using rv) hw
def tAsg (te:TE)(g:TG):TS:=fun D σ H=>te σ H fun x H1=>g x σ H1 D.nx
theorem ps_asg {tg e:Expr}{te:TE}{g:TG}(he:PE X e te)(hg:PG X tg g)(hs:swapsWithSole [tg] e pos.line X.env=pure false:=by rfl)(hw:swappedStores [tg] e X.env=pure none:=by rfl)
    (h1:(assignEach [tg] X.env).map (·.2)=[assign tg X.env]:=by rfl):PS X (.Assign [tg] e pos) (tAsg te g):=by
  intro pins s σ H D I h
  refine wpAny_Assign_stores (thn (he pins s σ H _ I h) fun v s1 ⟨x,H1,I1,r1,q1⟩=>?_) hs hw
  rw [h1]
  exact thn (hg pins s1 σ H1 x v _ I1 r1 q1) fun _ s2 q=>q
theorem ps_set {i:Nat}{x:Str}{e:Expr}{te:TE}{pos':Pos}(hN:X.N.Nodup)(hi:X.N[i]?=some x)(hx:Loc X.env.scope x)(he:PE X e te)(hs:swapsWith e (some (.Name x pos')) pos.line X.env=pure false:=by rfl)(hf:X.fn x=true∨X.env.scope.names.lookup x=some .local:=by first | exact .inl rfl | exact .inr rfl | assumption) :
    PS X (.Assign [.Name x pos'] e pos) (tAsg te (gName i)):=by
  intro pins s σ H D I h
  refine wpAny_Assign_Name (thn (he pins s σ H _ I h) fun v s1 ⟨y,H1,I1,r1,q1⟩=>?_) hs
  exact store_ok I1 hN hi hx r1 (fun s2 I2=>⟨_,H1,I2,q1⟩) hf
end
section
variable {X:Cx}{pos:Pos}
end
structure It where
  go:Nat→Hp→Prop
  yld:Nat→Hp→V→Hp→Prop
  stop:Nat→Hp→Prop
def FpOk (X:Cx)(pins:List (Addr × Obj))(H:Hp)(b:Addr):Prop :=
  H b=none∧b≠X.env.locals∧b∉X.fs∧(b∈X.ex∨X.s₀.heap.objs.size≤b)∧(∀ x c,X.env.cells.lookup x=some c→c≠b)∧∀ p∈X.pn++pins,p.1≠b
theorem Inv.fpOk {X:Cx}{pins:List (Addr × Obj)}{σ:St}{H H':Hp}{s:Shared}{b:Addr}(I:Inv X pins σ H s)(hb:s.heap.objs.size≤b)(hn:H' b=none):FpOk X pins H' b:=by
  refine ⟨hn,Nat.ne_of_gt (Nat.lt_of_lt_of_le I.lt hb),I.nofs hb,.inr (Nat.le_trans I.sz hb),fun x c e z=>?_,fun p hp z=>?_⟩
  · obtain ⟨v,q⟩:=I.cell x c e
    exact absurd (Nat.lt_of_lt_of_le q.lt (by rw [z];exact hb)) (Nat.lt_irrefl _)
  · exact absurd (Nat.lt_of_lt_of_le (Heap.lt_size (I.pin p hp).1) (by rw [z];exact hb)) (Nat.lt_irrefl _)
structure Turn (P:Program)(w:World)(K:PySem.W.Frag)(tg:Expr)(J:It)(fp:List Addr)(it:Addr)(tn:Nat→Heap→Prop):Prop where
  mem:it∈fp
  obj:∀ i h,tn i h→∀ b∈fp,∃ o,h.get? b=some o∧∀ v,o.data≠.cell v
  keep:∀ i h h',tn i h→(∀ b∈fp,∀ o,h.get? b=some o→h'.get? b=some o)→tn i h'
  item:∀ (X:Cx),X.prog=P→X.w=w→X.K=K→X.calm=true→∀ (i:Nat) (pins:List (Addr × Obj)) (s:Shared) (σ:St) (H:Hp) (E:Value→Shared→Prop),Inv X pins σ H s→(∀ b∈fp,FpOk X pins H b)→tn i s.heap→J.go i H →
    wpAny (model P w) X.A (pyNext (.ref it)) (fun r s1=>∃ u,r=some u ∧
      wpAny (model P w) X.A (letOwnedTupleGo tg (.ref it) u) (fun _ s2=>∃ x H',Inv X pins σ H' s2∧RelV x u∧J.yld i H x H'∧tn (i+1) s2.heap∧∀ b∈fp,H' b=none) E s1) E s
  done:∀ (X:Cx),X.prog=P→X.w=w→X.K=K→X.calm=true→∀ (i:Nat) (pins:List (Addr × Obj)) (s:Shared) (σ:St) (H:Hp) (E:Value→Shared→Prop),Inv X pins σ H s→(∀ b∈fp,FpOk X pins H b)→tn i s.heap→J.stop i H →
    wpAny (model P w) X.A (pyNext (.ref it)) (fun r s1=>r=none∧Inv X pins σ H s1) E s
  self:∀ (A:Around) (i:Nat) (s:Shared) (Q:Value→Shared→Prop) (E:Value→Shared→Prop),tn i s.heap→Q (.ref it) s→wpAny (model P w) A (pyIter (.ref it)) Q E s
abbrev TI:=St→Hp→(It→Hp→Prop)→Prop
def PIE (X:Cx)(pins:List (Addr × Obj))(σ:St)(tg:Expr)(R:It→Hp→Prop)(itv:Value)(s2:Shared):Prop :=
  ∃ (it:Addr) (fp:List Addr) (tn:Nat→Heap→Prop) (J:It) (H':Hp),itv=.ref it∧Inv X pins σ H' s2∧Turn X.prog X.w X.K tg J fp it tn∧tn 0 s2.heap∧(∀ b∈fp,FpOk X pins H' b)∧R J H'
def PI (X:Cx) (tg iter:Expr) (wi:TI):Prop :=
  ∀ (pins:List (Addr × Obj)) (s:Shared) (σ:St) (H:Hp) (R:It→Hp→Prop),Inv X pins σ H s→wi σ H R →
    wpAny (model X.prog X.w) X.A (eval iter X.env) (fun v s1=>wpAny (model X.prog X.w) X.A (pyIter v) (PIE X pins σ tg R) X.xe s1) X.xe s
theorem go_of {M:Model} {A:Around} {E:Value→Shared→Prop} {s:Shared} {tg:Expr} {it:Addr} {u:Value} {o:Obj} {n:String} {vs:Array Value} {Q:Unit→Shared→Prop} (ho:s.heap.get? it=some o) (hc:o.cls=.type n) (hd:o.data=.fields vs)
    (hn:["enumerate","zip","dict_itemiterator","dict_reverseitemiterator","odict_iterator","itertools.zip_longest","itertools.pairwise"].contains n=false) (hQ:Q () s):wpAny M A (letOwnedTupleGo tg (.ref it) u) Q E s:=by
  unfold letOwnedTupleGo
  cases tg <;> first
    | exact wpAny_pure hQ
    | (cases u<;>first
        | exact wpAny_pure hQ
        | (refine wpAny_bind (wpAny_load ho ?_)
           rw [hc,hd]
           show wpAny M A (if (["enumerate","zip","dict_itemiterator","dict_reverseitemiterator","odict_iterator","itertools.zip_longest","itertools.pairwise"].contains n&&vs[0]?==some (rawInt _))=true then _ else _) Q E s
           rw [if_neg (by intro h;rw [hn,Bool.false_and] at h;cases h)]
           exact wpAny_pure hQ))
def Itl (K:PySem.W.Frag)(a:Addr):It :=
  ⟨fun i H=>∃ xs x,SqL K H a xs∧xs[i]?=some x,fun i H x H'=>H'=H∧∀ xs,SqL K H a xs→xs[i]?=some x,fun i H=>∃ xs,SqL K H a xs∧xs.length≤i⟩
def Itr (lo:Int)(n:Nat):It:=⟨fun i _=>i<n,fun i H x H'=>H'=H∧x=.int (lo+i),fun i _=>n≤i⟩
theorem turn_list {P:Program}{w:World}{K:PySem.W.Frag}{tg:Expr}(a it:Addr):Turn P w K tg (Itl K a) [it] it (fun i h=>h.IsListIter it a i) where
  mem:=by simp
  obj:=fun i h st b hb=>by
    have e:b=it:=by simpa using hb
    subst e
    obtain ⟨o,e,c,d⟩:=st
    exact ⟨o,e,fun v z=>by rw [d] at z;cases z⟩
  keep:=fun i h h' st k=>st.at fun o e=>k it (by simp) o e
  item:=by
    intro X hP hw hK hc i pins s σ H E I hf st hg
    subst hP hw hK
    obtain ⟨xs,x,hq,hx⟩:=hg
    obtain ⟨its,rv,p,hz⟩:=I.list hq
    obtain ⟨u,hu,ru⟩:=rv.get hx
    obtain ⟨f0,f1,f2,f3,f4,f5⟩:=hf it (by simp)
    refine wpAny_pyNext_list_item st p.isList (x:=u) (by simpa using hu) fun h' st' sb=>?_
    have I1:Inv X pins σ H { s with heap:=h' }:=I.turned (t':=s.toks) (fun b o hb e=>(sb.2 b hb).trans e) f0 f1 f3 f4 f5
    obtain ⟨o,e,c,d⟩:=id st'
    exact ⟨u,rfl,go_of (s:={ s with heap:=h' }) e c d (by decide) ⟨x,H,I1,ru,⟨rfl,fun ys hy=>by rw [I.list_inj hy hq];exact hx⟩,st',fun b hb=>(hf b hb).1⟩⟩
  done:=by
    intro X hP hw hK hc i pins s σ H E I hf st hg
    subst hP hw hK
    obtain ⟨xs,hq,hx⟩:=hg
    obtain ⟨its,rv,p,hz⟩:=I.list hq
    obtain ⟨f0,f1,f2,f3,f4,f5⟩:=hf it (by simp)
    have hl:=rv.length
    exact wpAny_pyNext_list_end (I.ok.hd hc) st p.isList (by simp;omega) fun h' eb=>⟨rfl,I.turned (t':=s.toks) (fun b o hb e=>eb b o hb e) f0 f1 f3 f4 f5⟩
  self:=fun _ _ _ _ _ st h=>wpAny_pyIter_listiter st h
theorem turn_range {P:Program}{w:World}{K:PySem.W.Frag}{tg:Expr}(it:Addr)(lo:Int)(n:Nat):Turn P w K tg (Itr lo n) [it] it (fun i h=>IsRangeIter h it (lo+(i:Nat)*1) ((n:Int)-(i:Nat)) 1) where
  mem:=by simp
  obj := fun i h st b hb=>by
    have e:b=it:=by simpa using hb
    subst e
    exact ⟨_,st,fun v z=>by
      have z':Data.fields _=Data.cell v:=z
      cases z'⟩
  keep:=fun i h h' st k=>k it (by simp) _ st
  item:=by
    intro X hP hw hK hc i pins s σ H E I hf st hg
    subst hP hw hK
    obtain ⟨f0,f1,f2,f3,f4,f5⟩:=hf it (by simp)
    have W:=Walks.range (prog:=X.prog) (w:=X.w) (I.ok.hd hc) it lo 1 n
    refine W.item i s _ _ hg st fun v h' tk hv st' kk=>?_
    obtain ⟨t,rfl⟩:=hv
    have I1:Inv X pins σ H { s with heap:=h',toks:=tk }:=I.turned (fun b o hb e=>kk b o (by simpa using hb) e) f0 f1 f3 f4 f5
    refine ⟨_,rfl,go_of (s:={ s with heap:=h',toks:=tk }) (n:="range_iterator") st' rfl rfl (by decide) ⟨.int (lo+i),H,I1,⟨t,?_⟩,⟨rfl,rfl⟩,st',fun b hb=>(hf b hb).1⟩⟩
    rw [Int.mul_one]
  done:=by
    intro X hP hw hK hc i pins s σ H E I hf st hg
    subst hP hw hK
    obtain ⟨f0,f1,f2,f3,f4,f5⟩:=hf it (by simp)
    exact wpAny_pyNext_range_end (I.ok.hd hc) st (by have:n≤i:=hg;omega) fun h' eb=>⟨rfl,I.turned (t':=s.toks) (fun b o hb e=>eb b o hb e) f0 f1 f3 f4 f5⟩
  self:=fun _ _ _ _ _ st h=>wpAny_pyIter_rangeiter st h
end L2
namespace L2
open PySem PySem.Spec PyProof.Rows
section
variable {X:Cx}{tg:Expr}
def iList (K:PySem.W.Frag)(tl:TE):TI:=fun σ H R=>tl σ H fun x H1=>∃ a,x=.ref a∧(∃ xs,SqL K H1 a xs)∧R (Itl K a) H1
theorem pi_list {l:Expr}{tl:TE}(hl:PE X l tl):PI X tg l (iList X.K tl):=by
  intro pins s σ H R I h
  refine thn (hl pins s σ H _ I h) fun v s1 ⟨x,H1,I1,r1,q1⟩=>?_
  obtain ⟨a,e,⟨xs,hq⟩,q⟩:=q1
  subst e
  cases r1
  obtain ⟨its,rv,p,hz⟩:=I1.list hq
  refine wpAny_pyIter_list p.isList ?_
  refine ⟨s1.heap.objs.size,[s1.heap.objs.size],_,_,H1,rfl,I1.kept (t':=s1.toks) fun b o e=>Heap.get?_push_of_some _ e,turn_list a _,⟨_,Heap.get?_push_size _ rfl,rfl,rfl⟩,fun b hb=>?_,q⟩
  have e:b=s1.heap.objs.size:=by simpa using hb
  subst e
  exact I1.fpOk (Nat.le_refl _) (I1.hok.fresh (Nat.le_refl _))
theorem range_it {pins:List (Addr × Obj)}{σ:St}{H:Hp}{s:Shared}{R:It→Hp→Prop}{E:Value→Shared→Prop}{lo hi:Int}{t u v:Tok}{tk:Nat}(I:Inv X pins σ H s)(h1:-(2^62)≤lo)(h2:lo<2^62)(h3:-(2^62)≤hi)(h4:hi<2^62)
    (q:R (Itr lo (hi-lo).toNat) H):wpAny (model X.prog X.w) X.A (pyIter (.ref s.heap.objs.size)) (PIE X pins σ tg R) E { s with heap:=s.heap.push { cls:=.type "range",data:=.fields #[.int lo t,.int hi u,.int 1 v] },toks:=tk }:=by
  refine wpAny_pyIter_range (IsRange.new ..) (small_one h1 h2 h3 h4) ?_
  have I1:Inv X pins σ H { s with heap:=s.heap.push { cls:=.type "range",data:=.fields #[.int lo t,.int hi u,.int 1 v] },toks:=tk }:=I.kept fun b o e=>Heap.get?_push_of_some _ e
  refine ⟨(s.heap.push { cls:=.type "range",data:=.fields #[.int lo t,.int hi u,.int 1 v] }).objs.size,[(s.heap.push { cls:=.type "range",data:=.fields #[.int lo t,.int hi u,.int 1 v] }).objs.size],_,_,H,rfl,
    I1.kept (t':=tk) fun b o e=>Heap.get?_push_of_some _ e,turn_range _ lo (hi-lo).toNat,?_,fun b hb=>?_,q⟩
  · have e1:lo+((0:Nat):Int)*1=lo:=by simp
    have e2:(((hi-lo).toNat:Nat):Int)-((0:Nat):Int)=Builtin.Range.rangeSize lo hi 1:=by rw [rangeSize_one];split<;>omega
    show IsRangeIter _ _ (lo+((0:Nat):Int)*1) ((((hi-lo).toNat:Nat):Int)-((0:Nat):Int)) 1
    rw [e1,e2]
    exact Heap.get?_push_size _ rfl
  · have e:b=(s.heap.push { cls:=.type "range",data:=.fields #[.int lo t,.int hi u,.int 1 v] }).objs.size:=by simpa using hb
    subst e
    exact I1.fpOk (Nat.le_refl _) (I1.hok.fresh (Nat.le_refl _))
def iRng1 (ta:TA):TI:=fun σ H R=>ta σ H fun vs H1=>∃ j:Int,vs=[.int j]∧-(2^62)≤j∧j<2^62∧R (Itr 0 j.toNat) H1
theorem pi_range1 {a:Expr}{ta:TA}{p pos:Pos}(hg:Gl X "range")(hm:X.mg "range"=none)(ha:PA X [a] ta)(hs:starEach [a] X.env=[(false,eval a X.env)]:=by rfl):PI X tg (.Call (.Name "range" p) [a] [] pos) (iRng1 ta):=by
  intro pins s σ H R I h
  refine Call_ (ld_blt I hg hm boot_range (PyProof.Rows.callWith_type1 (thn (ha pos pins s σ H _ I h) fun us s1 ⟨vs,H1,I1,r1,q1⟩=>?_) hs rfl))
  obtain ⟨j,e,q1,q2,q⟩:=q1
  subst e
  cases r1 with
  | cons r rr =>
    cases rr
    obtain ⟨t,rfl⟩:=r
    exact call_range_1 (range_it I1 (by omega) (by omega) q1 q2 (by simpa using q))
def tFor (wi:TI)(g:TG)(tb:TS):TS:=fun D σ H=>wi σ H fun J H1=>∃ W:Nat→Nat→St→Hp→Prop,(∃ m,W 0 m σ H1)∧∀ i m σ H,W i m σ H →
  (J.stop i H∧D.nx σ H)∨(J.go i H∧∃ N:St→Hp→Prop,(∀ σ' H',N σ' H'→∃ m',m'<m∧W (i+1) m' σ' H')∧∀ x H',J.yld i H x H'→g x σ H' fun σ2 H2=>tb { D with nx:=N,ct:=N,bk:=D.nx } σ2 H2)
def pinsAt (fp:List Addr)(h:Heap):List (Addr × Obj):=fp.filterMap fun b=>(h.get? b).map fun o=>(b,o)
theorem mem_pinsAt {fp:List Addr}{h:Heap}{b:Addr}{o:Obj}(hb:b∈fp)(e:h.get? b=some o):(b,o)∈pinsAt fp h:=List.mem_filterMap.mpr ⟨b,hb,by rw [e];rfl⟩
theorem of_pinsAt {fp:List Addr}{h:Heap}{p:Addr × Obj}(hp:p∈pinsAt fp h):p.1∈fp∧h.get? p.1=some p.2:=by
  obtain ⟨b,hb,e⟩:=List.mem_filterMap.mp hp
  cases q:h.get? b with
  | none=>rw [q] at e;cases e
  | some o =>
    rw [q] at e
    have e':(b,o)=p:=Option.some.inj e
    subst e'
    exact ⟨hb,q⟩
theorem Inv.pinned {pins:List (Addr × Obj)}{σ:St}{H:Hp}{s:Shared}{fp:List Addr}(I:Inv X pins σ H s)(hf:∀ b∈fp,FpOk X pins H b)(ho:∀ b∈fp,∃ o,s.heap.get? b=some o∧∀ v,o.data≠.cell v):Inv X (pins++pinsAt fp s.heap) σ H s :=
  I.pins_of fun p hp=>(List.mem_append.mp hp).elim (fun z=>I.pin p (List.mem_append_right _ z)) fun z=>by
    obtain ⟨hb,e⟩:=of_pinsAt z
    obtain ⟨f0,f1,f2,_⟩:=hf p.1 hb
    obtain ⟨o,e',d⟩:=ho p.1 hb
    rw [e] at e';cases e'
    exact ⟨e,f0,f1,f2,d⟩
theorem Inv.unpinned {pins pl:List (Addr × Obj)}{σ:St}{H:Hp}{s:Shared}(I:Inv X (pins++pl) σ H s):Inv X pins σ H s:=I.pins_of fun p hp=>I.pin p (List.mem_append_right _ (List.mem_append_left _ hp))
theorem ps_for {iter:Expr}{body:List Stmt}{wi:TI}{g:TG}{tb:TS}{pos:Pos}(hp:PassesOwn (model X.prog X.w) X.A X.env X.xe)(hc:X.calm=true)(hi:PI X tg iter wi)(hg:PG X tg g)(hb:PSs X body tb)
    (hs:∀ x,foldedSetIterable iter X.env x=pure x:=by intro _;rfl):PS X (.For tg iter body [] pos) (tFor wi g tb):=by
  intro pins s σ H D I h
  refine wpAny_For (thn (hi pins s σ H _ I h) fun v s1 h1=>thn h1 fun itv s2 h2=>?_) hs
  obtain ⟨it,fp,tn,J,H2,e,I2,T,st2,f2,W,⟨m0,w0⟩,turn⟩:=h2
  subst e
  have stat:∀ {H':Hp},(∀ b∈fp,H' b=none)→∀ b∈fp,FpOk X pins H' b:=fun hn b hb=>⟨hn b hb,(f2 b hb).2⟩
  refine codeAny_forLoop_any (fun n s'=>∃ i σ' H',Inv X pins σ' H' s'∧tn i s'.heap∧(∀ b∈fp,H' b=none)∧W i n σ' H') ?_ m0 ⟨0,σ,H2,I2,st2,fun b hb=>(f2 b hb).1,w0⟩
  rintro n s3 ⟨i,σ3,H3,I3,st3,fr3,w3⟩
  rcases turn i n σ3 H3 w3 with ⟨stop,qn⟩ | ⟨go,N,hN,step⟩
  · refine wpAny_passesOwn hp (thn (T.done X rfl rfl rfl hc i pins s3 σ3 H3 X.xe I3 (stat fr3) st3 stop) fun r s4 ⟨hr,I4⟩=>?_)
    subst hr
    exact wpAny_execs_nil ⟨σ3,H3,I4,qn⟩
  · refine wpAny_passesOwn hp (thn (T.item X rfl rfl rfl hc i pins s3 σ3 H3 X.xe I3 (stat fr3) st3 go) fun r s4 ⟨u,hr,h4⟩=>?_)
    subst hr
    refine wpAny_passesOwn hp (thn h4 fun _ s5 ⟨x,H5,I5,r5,y5,st5,fr5⟩=>?_)
    have I5':=I5.pinned (stat fr5) (T.obj _ _ st5)
    refine wpAny_passesOwn hp (thn (hg _ s5 σ3 H5 x u _ I5' r5 (step x H5 y5)) fun _ s6 ⟨σ6,H6,I6,q6⟩=>?_)
    refine wpAny_passesOwn hp (thn (hb _ s6 σ6 H6 _ I6 q6) fun f s7 q7=>?_)
    have again:∀ {σ7:St} {H7:Hp},Inv X (pins++pinsAt fp s5.heap) σ7 H7 s7→N σ7 H7→∃ m,m<n∧∃ i σ' H',Inv X pins σ' H' s7∧tn i s7.heap∧(∀ b∈fp,H' b=none)∧W i m σ' H':=fun {σ7 H7} I7 n7=>by
      obtain ⟨m',hm,w7⟩:=hN σ7 H7 n7
      refine ⟨m',hm,i+1,σ7,H7,I7.unpinned,T.keep _ _ _ st5 fun b hb o e=>(I7.pin (b,o) (List.mem_append_right _ (List.mem_append_right _ (mem_pinsAt hb e)))).1,fun b hb=>?_,w7⟩
      obtain ⟨o,e,d⟩:=T.obj _ _ st5 b hb
      exact (I7.pin (b,o) (List.mem_append_right _ (List.mem_append_right _ (mem_pinsAt hb e)))).2.1
    cases f with
    | next=>obtain ⟨σ7,H7,I7,n7⟩:=q7;exact again I7 n7
    | cont=>obtain ⟨σ7,H7,I7,n7⟩:=q7;exact again I7 n7
    | brk=>obtain ⟨σ7,H7,I7,q7⟩:=q7;exact ⟨σ7,H7,I7.unpinned,q7⟩
    | ret v=>obtain ⟨x7,σ7,H7,I7,r7,q7⟩:=q7;exact ⟨x7,σ7,H7,I7.unpinned,r7,q7⟩
end
theorem for_list {K:PySem.W.Frag}{a:Addr}{xs:List V}{g:TG}{tb:TS}{D:Ends}{σ:St}{H:Hp}(Pv:Nat→St→Hp→Prop)(h0:Pv 0 σ H)(hl:∀ i σ H,i≤xs.length→Pv i σ H→SqL K H a xs)
    (hs:∀ i x σ H,xs[i]?=some x→Pv i σ H→g x σ H fun σ2 H2=>tb { D with nx:=Pv (i+1),ct:=Pv (i+1),bk:=D.nx } σ2 H2) (hd:∀ σ H,Pv xs.length σ H→D.nx σ H) :
    ∃ W:Nat→Nat→St→Hp→Prop,(∃ m,W 0 m σ H)∧∀ i m σ H,W i m σ H →
      ((Itl K a).stop i H∧D.nx σ H)∨((Itl K a).go i H∧∃ N:St→Hp→Prop,(∀ σ' H',N σ' H'→∃ m',m'<m∧W (i+1) m' σ' H')∧∀ x H',(Itl K a).yld i H x H'→g x σ H' fun σ2 H2=>tb { D with nx:=N,ct:=N,bk:=D.nx } σ2 H2):=by
  refine ⟨fun i m σ H=>m=xs.length-i∧i≤xs.length∧Pv i σ H,⟨xs.length,by simp,Nat.zero_le _,h0⟩,?_⟩
  rintro i m σ H ⟨rfl,hi,p⟩
  have q:=hl i σ H hi p
  by_cases hlt:i<xs.length
  · refine .inr ⟨⟨xs,xs[i],q,by simp [hlt]⟩,Pv (i+1),fun σ' H' p'=>⟨xs.length-(i+1),by omega,rfl,hlt,p'⟩,fun x H' y=>?_⟩
    obtain ⟨e,y⟩:=y
    subst e
    exact hs i x σ _ (y xs q) p
  · have e:i=xs.length:=by omega
    subst e
    exact .inl ⟨⟨xs,q,Nat.le_refl _⟩,hd σ H p⟩
theorem for_range {lo:Int}{n:Nat}{g:TG}{tb:TS}{D:Ends}{σ:St}{H:Hp}(Pv:Nat→St→Hp→Prop)(h0:Pv 0 σ H)
    (hs:∀ i σ H,i<n→Pv i σ H→g (.int (lo+i)) σ H fun σ2 H2=>tb { D with nx:=Pv (i+1),ct:=Pv (i+1),bk:=D.nx } σ2 H2) (hd:∀ σ H,Pv n σ H→D.nx σ H) :
    ∃ W:Nat→Nat→St→Hp→Prop,(∃ m,W 0 m σ H)∧∀ i m σ H,W i m σ H →
      ((Itr lo n).stop i H∧D.nx σ H)∨((Itr lo n).go i H∧∃ N:St→Hp→Prop,(∀ σ' H',N σ' H'→∃ m',m'<m∧W (i+1) m' σ' H')∧∀ x H',(Itr lo n).yld i H x H'→g x σ H' fun σ2 H2=>tb { D with nx:=N,ct:=N,bk:=D.nx } σ2 H2):=by
  refine ⟨fun i m σ H=>m=n-i∧i≤n∧Pv i σ H,⟨n,by simp,Nat.zero_le _,h0⟩,?_⟩
  rintro i m σ H ⟨rfl,hi,p⟩
  by_cases hlt:i<n
  · refine .inr ⟨hlt,Pv (i+1),fun σ' H' p'=>⟨n-(i+1),by omega,rfl,hlt,p'⟩,fun x H' y=>?_⟩
    obtain ⟨e,y⟩:=y
    subst e y
    exact hs i σ _ hlt p
  · have e:i=n:=by omega
    subst e
    exact .inl ⟨Nat.le_refl _,hd σ H p⟩
end L2
namespace L2
open PySem PySem.Spec PyProof.Rows
abbrev R2:=V→V→Hp→VK→Prop
def OpR (X:Cx) (f:Value→Value→Sem Value) (r:R2):Prop :=
  ∀ (pins:List (Addr × Obj)) (s:Shared) (σ:St) (H:Hp) (x y:V) (v u:Value) (Q:VK),Inv X pins σ H s→RelV x v→RelV y u→r x y H Q →
    wpAny (model X.prog X.w) X.A (f v u) (EP X pins σ Q) X.xe s
def UnR (X:Cx) (f:Value→Sem Value) (r:V→Hp→VK→Prop):Prop :=
  ∀ (pins:List (Addr × Obj)) (s:Shared) (σ:St) (H:Hp) (x:V) (v:Value) (Q:VK),Inv X pins σ H s→RelV x v→r x H Q →
    wpAny (model X.prog X.w) X.A (f v) (EP X pins σ Q) X.xe s
def CallR (X:Cx) (f:Value) (r:List V→Hp→VK→Prop):Prop :=
  ∀ (pins:List (Addr × Obj)) (s:Shared) (σ:St) (H:Hp) (xs:List V) (us:List Value) (Q:VK),Inv X pins σ H s→Vals xs us→r xs H Q →
    wpAny (model X.prog X.w) X.A (call f us) (EP X pins σ Q) X.xe s
def tOp (r:R2)(ta tb:TE):TE:=fun σ H Q=>ta σ H fun x H1=>tb σ H1 fun y H2=>r x y H2 Q
def tUn (r:V→Hp→VK→Prop)(ta:TE):TE:=fun σ H Q=>ta σ H fun x H1=>r x H1 Q
def rI (C:Int→Int→Prop)(g:Int→Int→V):R2:=fun x y H Q=>∃ i j,x=.int i∧y=.int j∧C i j∧Q (g i j) H
def rI0 (g:Int→Int→V):R2:=fun x y H Q=>∃ i j,x=.int i∧y=.int j∧Q (g i j) H
def rU (g:Int→V):V→Hp→VK→Prop:=fun x H Q=>∃ i,x=.int i∧Q (g i) H
section
variable {X:Cx}{a b c:Expr}{ta tb tc:TE}{pos:Pos}
theorem binT (ha:PE X a ta)(hb:PE X b tb){pins:List (Addr × Obj)}{s:Shared}{σ:St}{H:Hp}{R:V→V→Hp→Prop}(I:Inv X pins σ H s)
    (h:ta σ H fun x H1=>tb σ H1 fun y H2=>R x y H2) {Q:Value→Shared→Prop} {f:Value→Value→Sem Value}
    (hf:∀ v u s2 x y H2,Inv X pins σ H2 s2→RelV x v→RelV y u→R x y H2→wpAny (model X.prog X.w) X.A (f v u) Q X.xe s2) :
    wpAny (model X.prog X.w) X.A (eval a X.env) (fun v s₁=>wpAny (model X.prog X.w) X.A (eval b X.env) (fun u s₂=>wpAny (model X.prog X.w) X.A (f v u) Q X.xe s₂) X.xe s₁) X.xe s:=by
  refine thn (ha pins s σ H _ I h) fun v s1 ⟨x,H1,I1,r1,q1⟩=>?_
  refine thn (hb pins s1 σ H1 _ I1 q1) fun u s2 ⟨y,H2,I2,r2,q2⟩=>?_
  exact hf v u s2 x y H2 I2 r1 r2 q2
theorem pe_op {op:Operator}{r:R2}(ho:OpR X (binaryOp op) r)(ha:PE X a ta)(hb:PE X b tb):PE X (.BinOp a op b pos) (tOp r ta tb):=by
  intro pins s σ H Q I h
  exact wpAny_BinOp (binT ha hb I h fun v u s2 x y H2 I2 rx ry q=>ho pins s2 σ H2 x y v u Q I2 rx ry q)
theorem pe_un {op:UnaryOp}{r:V→Hp→VK→Prop}(ho:UnR X (unaryOp op) r)(ha:PE X a ta):PE X (.UnaryOp op a pos) (tUn r ta):=by
  intro pins s σ H Q I h
  exact UnaryOp_ (thn (ha pins s σ H _ I h) fun v s1 ⟨x,H1,I1,r1,q1⟩=>ho pins s1 σ H1 x v Q I1 r1 q1)
theorem opI {f:Value→Value→Sem Value}{C:Int→Int→Prop}{g:Int→Int→Int}
    (rule:∀ (i j:Int) (t u:Tok) (s:Shared) (Q:Value→Shared→Prop) (E:Value→Shared→Prop),C i j→Q (.int (g i j) s.toks) { s with toks:=s.toks+1 }→wpAny (model X.prog X.w) X.A (f (.int i t) (.int j u)) Q E s) :
    OpR X f (rI C fun i j=>.int (g i j)):=by
  intro pins s σ H x y v u Q I rx ry h
  obtain ⟨i,j,rfl,rfl,hc,q⟩:=h
  obtain ⟨t,rfl⟩:=rx
  obtain ⟨t',rfl⟩:=ry
  exact rule i j t t' s _ _ hc ⟨.int (g i j),H,I.tok _,⟨_,rfl⟩,q⟩
theorem opI0 {f:Value→Value→Sem Value}{g:Int→Int→Int}
    (rule:∀ (i j:Int) (t u:Tok) (s:Shared) (Q:Value→Shared→Prop) (E:Value→Shared→Prop),Q (.int (g i j) s.toks) { s with toks:=s.toks+1 }→wpAny (model X.prog X.w) X.A (f (.int i t) (.int j u)) Q E s) :
    OpR X f (rI0 fun i j=>.int (g i j)):=by
  intro pins s σ H x y v u Q I rx ry h
  obtain ⟨i,j,rfl,rfl,q⟩:=h
  obtain ⟨t,rfl⟩:=rx
  obtain ⟨t',rfl⟩:=ry
  exact rule i j t t' s _ _ ⟨.int (g i j),H,I.tok _,⟨_,rfl⟩,q⟩
theorem opB0 {f:Value→Value→Sem Value}{g:Int→Int→Bool}
    (rule:∀ (i j:Int) (t u:Tok) (s:Shared) (Q:Value→Shared→Prop) (E:Value→Shared→Prop),Q (.bool (g i j)) s→wpAny (model X.prog X.w) X.A (f (.int i t) (.int j u)) Q E s) :
    OpR X f (rI0 fun i j=>.bl (g i j)):=by
  intro pins s σ H x y v u Q I rx ry h
  obtain ⟨i,j,rfl,rfl,q⟩:=h
  obtain ⟨t,rfl⟩:=rx
  obtain ⟨t',rfl⟩:=ry
  exact rule i j t t' s _ _ ⟨.bl (g i j),H,I,rfl,q⟩
def CDiv (i j:Int):Prop:=0<j∧j<1073741824
def CPow (i j:Int):Prop:=0≤j∧j≤1000000∧i.natAbs<2^64
def CMul (i j:Int):Prop:=(-(2^64)<i∧i<2^64)∨(-(2^64)<j∧j<2^64)
theorem CMul.ok {i j:Int}(h:CMul i j):IntMulOk i j:=by
  rcases h with ⟨h1,h2⟩ | ⟨h1,h2⟩
  · exact .of_left (intBits_le_64 h1 h2)
  · exact .of_right (intBits_le_64 h1 h2)
theorem op_add:OpR X (binaryOp .Add) (rI0 fun i j=>.int (i+j)):=opI0 fun _ _ _ _ _ _ _ q=>add_int q
theorem op_sub:OpR X (binaryOp .Sub) (rI0 fun i j=>.int (i-j)):=opI0 fun _ _ _ _ _ _ _ q=>sub_int q
theorem op_mul:OpR X (binaryOp .Mult) (rI CMul fun i j=>.int (i*j)):=opI fun _ _ _ _ _ _ _ hc q=>mul_int q hc.ok
theorem op_fdiv:OpR X (binaryOp .FloorDiv) (rI CDiv fun i j=>.int (i/j)):=opI fun i j _ _ _ _ _ hc q=>by
  have h1:(0:Int)<j:=hc.1
  have h2:j<1073741824:=hc.2
  exact floordiv_int (by omega) (by rw [Int.fdiv_eq_ediv_of_nonneg i (by omega)];exact q) (.inl (PyProof.noPylong_small (by omega)))
theorem op_mod:OpR X (binaryOp .Mod) (rI (fun _ j=>0<j) fun i j=>.int (i%j)):=opI fun i j _ _ _ _ _ hc q=>by
  have h1:(0:Int)<j:=hc
  exact mod_int' (by omega) (by rw [Int.fmod_eq_emod_of_nonneg i (by omega)];exact q)
theorem op_pow:OpR X (binaryOp .Pow) (rI CPow fun i j=>.int (i^j.toNat)):=opI fun _ _ _ _ _ _ _ hc q=>pow_int_small hc.1 hc.2.1 hc.2.2 q
theorem unI {f:Value→Sem Value}{g:Int→Int}
    (rule:∀ (i:Int) (t:Tok) (s:Shared) (Q:Value→Shared→Prop) (E:Value→Shared→Prop),Q (.int (g i) s.toks) { s with toks:=s.toks+1 }→wpAny (model X.prog X.w) X.A (f (.int i t)) Q E s) :
    UnR X f (rU fun i=>.int (g i)):=by
  intro pins s σ H x v Q I rx h
  obtain ⟨i,rfl,q⟩:=h
  obtain ⟨t,rfl⟩:=rx
  exact rule i t s _ _ ⟨.int (g i),H,I.tok _,⟨_,rfl⟩,q⟩
theorem un_neg:UnR X (unaryOp .USub) (rU fun i=>.int (-i)):=unI fun _ _ _ _ _ q=>neg_int q
end
def scal:V→V→Bool
  | .non,.non=>true | .non,.int _=>true | .int _,.non=>true | .non,.bl _=>true | .bl _,.non=>true | .non,.str _=>true | .str _,.non=>true
  | .int _,.int _=>true | .bl _,.bl _=>true | .str _,.str _=>true | .byt _,.byt _=>true
  | .int _,.str _=>true | .str _,.int _=>true | .bl _,.str _=>true | .str _,.bl _=>true
  | _,_=>false
def rEq:R2:=fun x y H Q=>scal x y=true∧Q (.bl (decide (x=y))) H
def rNe:R2:=fun x y H Q=>scal x y=true∧Q (.bl (!decide (x=y))) H
theorem dec_int {i j:Int}:decide (V.int i=V.int j)=(i==j):=by
  rw [Bool.eq_iff_iff]
  simp
theorem dec_bl {i j:Bool}:decide (V.bl i=V.bl j)=(i==j):=by
  rw [Bool.eq_iff_iff]
  simp
theorem dec_str {i j:Str}:decide (V.str i=V.str j)=(i==j):=by
  rw [Bool.eq_iff_iff]
  simp
theorem dec_byt {i j:Array UInt8}:decide (V.byt i=V.byt j)=(i.toList==j.toList):=by
  rw [Bool.eq_iff_iff]
  cases i
  cases j
  simp
section
variable {X:Cx}{a b c:Expr}{ta tb tc:TE}{pos:Pos}
theorem fin_bl {pins:List (Addr × Obj)}{σ:St}{H:Hp}{s:Shared}{Q:VK}{k k':Bool}(I:Inv X pins σ H s)(q:Q (.bl k) H)(e:k=k'):EP X pins σ Q (.bool k') s:=by
  subst e
  exact ⟨.bl k,H,I,rfl,q⟩
theorem op_eq:OpR X (compareOp .Eq) rEq:=by
  intro pins s σ H x y v u Q I rx ry h
  obtain ⟨hs,q⟩:=h
  cases x with
  | non =>
    cases rx
    cases y with
    | non=>cases ry;exact PySem.EqNone.eq_none_none (fin_bl I q (by simp))
    | bl j=>cases ry;exact PySem.EqNone.eq_none_bool (fin_bl I q (by simp))
    | int j=>obtain ⟨t',rfl⟩:=ry;exact PySem.EqNone.eq_none_int (fin_bl I q (by simp))
    | str j=>obtain ⟨t',rfl⟩:=ry;exact PySem.EqNone.eq_none_str (fin_bl I q (by simp))
    | _=>exact absurd (show false=true from hs) Bool.false_ne_true
  | bl i =>
    cases rx
    cases y with
    | non=>cases ry;exact PySem.EqNone.eq_bool_none (fin_bl I q (by simp))
    | bl j=>cases ry;exact eq_bool (fin_bl I q dec_bl)
    | str j=>obtain ⟨t',rfl⟩:=ry;exact PySem.EqMixed.eq_bool_str (fin_bl I q (by simp))
    | _=>exact absurd (show false=true from hs) Bool.false_ne_true
  | int i =>
    obtain ⟨t,rfl⟩:=rx
    cases y with
    | non=>cases ry;exact PySem.EqNone.eq_int_none (fin_bl I q (by simp))
    | int j=>obtain ⟨t',rfl⟩:=ry;exact eq_int (fin_bl I q dec_int)
    | str j=>obtain ⟨t',rfl⟩:=ry;exact PySem.EqMixed.eq_int_str (fin_bl I q (by simp))
    | _=>exact absurd (show false=true from hs) Bool.false_ne_true
  | str i =>
    obtain ⟨t,rfl⟩:=rx
    cases y with
    | non=>cases ry;exact PySem.EqNone.eq_str_none (fin_bl I q (by simp))
    | bl j=>cases ry;exact PySem.EqMixed.eq_str_bool (fin_bl I q (by simp))
    | int j=>obtain ⟨t',rfl⟩:=ry;exact PySem.EqMixed.eq_str_int (fin_bl I q (by simp))
    | str j=>obtain ⟨t',rfl⟩:=ry;exact eq_str (fin_bl I q dec_str)
    | _=>exact absurd (show false=true from hs) Bool.false_ne_true
  | byt i =>
    obtain ⟨t,rfl⟩:=rx
    cases y with
    | byt j=>obtain ⟨t',rfl⟩:=ry;exact PySem.W.eq_bytes (fin_bl I q dec_byt)
    | _=>exact absurd (show false=true from hs) Bool.false_ne_true
  | _=>cases y<;>exact absurd (show false=true from hs) Bool.false_ne_true
theorem op_ne:OpR X (compareOp .NotEq) rNe:=by
  intro pins s σ H x y v u Q I rx ry h
  obtain ⟨hs,q⟩:=h
  cases x with
  | non =>
    cases rx
    cases y with
    | non=>cases ry;exact PySem.EqNone.ne_none_none (fin_bl I q (by simp))
    | bl j=>cases ry;exact PySem.EqNone.ne_none_bool (fin_bl I q (by simp))
    | int j=>obtain ⟨t',rfl⟩:=ry;exact PySem.EqNone.ne_none_int (fin_bl I q (by simp))
    | str j=>obtain ⟨t',rfl⟩:=ry;exact PySem.EqNone.ne_none_str (fin_bl I q (by simp))
    | _=>exact absurd (show false=true from hs) Bool.false_ne_true
  | bl i =>
    cases rx
    cases y with
    | non=>cases ry;exact PySem.EqNone.ne_bool_none (fin_bl I q (by simp))
    | bl j=>cases ry;exact ne_bool (fin_bl I q (congrArg not dec_bl))
    | str j=>obtain ⟨t',rfl⟩:=ry;exact PySem.EqMixed.ne_bool_str (fin_bl I q (by simp))
    | _=>exact absurd (show false=true from hs) Bool.false_ne_true
  | int i =>
    obtain ⟨t,rfl⟩:=rx
    cases y with
    | non=>cases ry;exact PySem.EqNone.ne_int_none (fin_bl I q (by simp))
    | int j=>obtain ⟨t',rfl⟩:=ry;exact ne_int (fin_bl I q (congrArg not dec_int))
    | str j=>obtain ⟨t',rfl⟩:=ry;exact PySem.EqMixed.ne_int_str (fin_bl I q (by simp))
    | _=>exact absurd (show false=true from hs) Bool.false_ne_true
  | str i =>
    obtain ⟨t,rfl⟩:=rx
    cases y with
    | non=>cases ry;exact PySem.EqNone.ne_str_none (fin_bl I q (by simp))
    | bl j=>cases ry;exact PySem.EqMixed.ne_str_bool (fin_bl I q (by simp))
    | int j=>obtain ⟨t',rfl⟩:=ry;exact PySem.EqMixed.ne_str_int (fin_bl I q (by simp))
    | str j=>obtain ⟨t',rfl⟩:=ry;exact ne_str (fin_bl I q (congrArg not dec_str))
    | _=>exact absurd (show false=true from hs) Bool.false_ne_true
  | byt i =>
    obtain ⟨t,rfl⟩:=rx
    cases y with
    | byt j=>obtain ⟨t',rfl⟩:=ry;exact PySem.W.ne_bytes (fin_bl I q (congrArg not dec_byt))
    | _=>exact absurd (show false=true from hs) Bool.false_ne_true
  | _=>cases y<;>exact absurd (show false=true from hs) Bool.false_ne_true
theorem op_lt:OpR X (compareOp .Lt) (rI0 fun i j=>.bl (decide (i<j))):=opB0 fun _ _ _ _ _ _ _ q=>lt_int q
theorem op_le:OpR X (compareOp .LtE) (rI0 fun i j=>.bl (decide (i≤j))):=opB0 fun _ _ _ _ _ _ _ q=>le_int q
theorem op_gt:OpR X (compareOp .Gt) (rI0 fun i j=>.bl (decide (j<i))):=opB0 fun _ _ _ _ _ _ _ q=>gt_int q
theorem op_isN:OpR X (compareOp .Is) (fun x y H Q=>y=.non∧Q (.bl (decide (x=.non))) H):=by
  intro pins s σ H x y v u Q I rx ry h
  obtain ⟨rfl,q⟩:=h
  cases ry
  refine is_none_gen (fin_bl I q ?_)
  cases x<;>first
    | (cases rx;rfl)
    | (obtain ⟨t,rfl⟩:=rx;rfl)
theorem nomark (b:Expr){op:CmpOp}(h:op≠.In:=by decide)(h2:op≠.NotIn:=by decide):behindInMarks op b=false:=by
  have e1:(op==CmpOp.In)=false:=by cases op<;>first | rfl | exact absurd rfl h
  have e2:(op==CmpOp.NotIn)=false:=by cases op<;>first | rfl | exact absurd rfl h2
  cases b<;>simp [behindInMarks,e1,e2]
theorem pe_cmpR {op:CmpOp}{r:R2}(ho:OpR X (compareOp op) r)(ha:PE X a ta)(hb:PE X b tb)(hm:behindInMarks op b=false):PE X (.Compare a [op] [b] pos) (tOp r ta tb):=by
  intro pins s σ H Q I h
  exact wpAny_Compare1 (binT ha hb I h fun v u s2 x y H2 I2 rx ry q=>ho pins s2 σ H2 x y v u Q I2 rx ry q) hm
def tTest (t:TE):TT:=fun σ H Q=>t σ H fun x H'=>∃ k,x=.bl k∧Q k H'
theorem pt_cmpR {op:CmpOp}{r:R2}(ho:OpR X (compareOp op) r)(ha:PE X a ta)(hb:PE X b tb)(hm:behindInMarks op b=false):PT X (.Compare a [op] [b] pos) (tTest (tOp r ta tb)):=by
  intro pins s σ H Q I h
  refine wpAny_isTrue_Compare1 (thn (ha pins s σ H _ I h) fun v s1 ⟨x,H1,I1,r1,q1⟩=>thn (hb pins s1 σ H1 _ I1 q1) fun u s2 ⟨y,H2,I2,r2,q2⟩ =>
    thn (ho pins s2 σ H2 x y v u _ I2 r1 r2 q2) fun c s3 ⟨z,H3,I3,r3,k,e,q3⟩=>?_) hm
  subst e
  cases r3
  exact wpAny_truthy_bool ⟨H3,I3,q3⟩
def tChain (r r':R2)(ta tb tc:TE):TE:=fun σ H Q=>ta σ H fun x H1=>tb σ H1 fun y H2=>r x y H2 fun z H3=>∃ k,z=.bl k ∧
  (if k=true then tc σ H3 fun w' H4=>r' y w' H4 Q else Q (.bl false) H3)
theorem pe_chain {op op':CmpOp}{r r':R2}(ho:OpR X (compareOp op) r)(ho':OpR X (compareOp op') r')(ha:PE X a ta)(hb:PE X b tb)(hc:PE X c tc)
    (hm:lastMarks [op,op'] [b,c]=false:=by with_unfolding_all rfl):PE X (.Compare a [op,op'] [b,c] pos) (tChain r r' ta tb tc):=by
  intro pins s σ H Q I h
  refine Compare_chain (thn (ha pins s σ H _ I h) fun v s1 ⟨x,H1,I1,r1,q1⟩=>chain_link (thn (hb pins s1 σ H1 _ I1 q1) fun u s2 ⟨y,H2,I2,r2,q2⟩ =>
    thn (ho pins s2 σ H2 x y v u _ I2 r1 r2 q2) fun d s3 ⟨z,H3,I3,r3,k,e,q3⟩=>?_)) hm
  subst e
  cases r3
  refine wpAny_truthy_bool ?_
  cases k with
  | false=>exact ite_ff ⟨.bl false,H3,I3,rfl,q3⟩
  | true=>exact ite_tt (chain_last (thn (hc pins s3 σ H3 _ I3 q3) fun w' s4 ⟨z',H4,I4,r4,q4⟩=>ho' pins s4 σ H4 y z' u w' Q I4 r2 r4 q4))
theorem line63:(sizeLine:Nat)<2^63:=by rw [sizeLine_eq];decide
theorem op_add_str:OpR X (binaryOp .Add) (fun x y H Q=>∃ i j,x=.str i∧y=.str j∧i.length+j.length≤sizeLine∧Q (.str (i++j)) H):=by
  intro pins s σ H x y v u Q I rx ry h
  obtain ⟨i,j,rfl,rfl,hz,q⟩:=h
  obtain ⟨t,rfl⟩:=rx
  obtain ⟨t',rfl⟩:=ry
  exact add_str (fun t' tk=>⟨.str (i++j),H,I.tok _,⟨_,rfl⟩,q⟩) hz
theorem vals1 {x:V}{us:List Value}(r:Vals [x] us):∃ u,us=[u]∧RelV x u:=by
  cases r with
  | cons r1 r2=>cases r2;exact ⟨_,rfl,r1⟩
theorem vals2 {x y:V}{us:List Value}(r:Vals [x,y] us):∃ u w',us=[u,w']∧RelV x u∧RelV y w':=by
  cases r with
  | cons r1 r2 =>
    cases r2 with
    | cons r3 r4=>cases r4;exact ⟨_,_,rfl,r1,r3⟩
theorem call_max2 (hc:X.calm=true):CallR X (.builtin "max") (fun xs H Q=>∃ i j,xs=[.int i,.int j]∧Q (.int (if j > i then j else i)) H):=by
  intro pins s σ H xs us Q I r h
  obtain ⟨i,j,rfl,q⟩:=h
  obtain ⟨u,w',rfl,⟨t,rfl⟩,⟨t',rfl⟩⟩:=vals2 r
  refine max_two_ints (I.ok.hd hc) fun h' tk k=>⟨_,H,I.kept k,?_,q⟩
  by_cases hj:j > i
  · rw [if_pos hj,if_pos hj];exact ⟨_,rfl⟩
  · rw [if_neg hj,if_neg hj];exact ⟨_,rfl⟩
theorem call_min2 (hc:X.calm=true):CallR X (.builtin "min") (fun xs H Q=>∃ i j,xs=[.int i,.int j]∧Q (.int (if j<i then j else i)) H):=by
  intro pins s σ H xs us Q I r h
  obtain ⟨i,j,rfl,q⟩:=h
  obtain ⟨u,w',rfl,⟨t,rfl⟩,⟨t',rfl⟩⟩:=vals2 r
  refine min_two_ints (I.ok.hd hc) fun h' tk k=>⟨_,H,I.kept k,?_,q⟩
  by_cases hj:j<i
  · rw [if_pos hj,if_pos hj];exact ⟨_,rfl⟩
  · rw [if_neg hj,if_neg hj];exact ⟨_,rfl⟩
theorem call_int1:CallR X (.type "int") (fun xs H Q=>(∃ i,xs=[.int i]∧Q (.int i) H)∨∃ k,xs=[.bl k]∧Q (.int (if k then 1 else 0)) H):=by
  intro pins s σ H xs us Q I r h
  rcases h with ⟨i,rfl,q⟩ | ⟨k,rfl,q⟩
  · obtain ⟨u,rfl,t,rfl⟩:=vals1 r
    exact call_int_int ⟨.int i,H,I,⟨_,rfl⟩,q⟩
  · obtain ⟨u,rfl,r1⟩:=vals1 r
    cases r1
    exact call_int_bool ⟨.int (if k then 1 else 0),H,I.tok _,⟨_,rfl⟩,q⟩
end
end L2
namespace L2
open PySem PySem.Spec PyProof.Rows
structure ObjM (h:Heap)(x dx C:Addr)(mA:Str→Option Value):Prop where
  obj:h.get? x=some (PySem.W.instObj C dx)
  ns:h.Ns1 dx mA
  ne:dx≠x
theorem lookIn_ns {h:Heap}{dx:Addr}{mA:Str→Option Value}(n:h.Ns1 dx mA):∃ od,h.get? dx=some od∧∀ name,PySem.W.lookIn name od=some (mA name):=by
  obtain ⟨o,es,ep,ho,hd,hk,_,hm⟩:=n
  refine ⟨o,ho,fun name=>?_⟩
  have e:=hm name
  unfold nsFind findBy at e
  rw [← Array.find?_toList] at e
  unfold PySem.W.lookIn
  rw [hd]
  dsimp only
  split
  · rename_i y q
    rw [q] at e
    exact congrArg some e
  · rename_i q
    rw [q] at e
    have a:es.toList.any (·.refKey)=false:=by
      rw [List.any_eq_false]
      intro y hy
      obtain ⟨z,t,hkey⟩:=hk y (Array.mem_toList_iff.mp hy)
      simp [DictEntry.refKey,hkey]
    have a':¬ es.toList.any (·.refKey)=true:=by rw [a];exact Bool.false_ne_true
    rw [if_neg a']
    exact congrArg some e
theorem ObjM.look {h:Heap}{x dx C:Addr}{mA:Str→Option Value}(I:ObjM h x dx C mA):∃ od,PySem.W.InstAt h x (PySem.W.instObj C dx) C (some od)∧∀ name,PySem.W.lookIn name od=some (mA name) :=
  let ⟨od,ho,hl⟩:=lookIn_ns I.ns
  ⟨od,⟨I.obj,rfl,rfl,ho⟩,hl⟩
section
variable {prog:Program}{w:World}{A:Around}{E:Value→Shared→Prop}{s:Shared}{K:PySem.W.Frag}{x dx C f:Addr}{mA:Str→Option Value}{name:Str}{v:Value}
theorem get_map {expr:Bool}{Q:Value→Shared→Prop}(X:K.In s.heap)(I:ObjM s.heap x dx C mA)(hg:PySem.W.plainGet K C name=true)(hh:PySem.W.hasDictIn K C=true)
    (ha:PySem.W.findIn K (.ref C) name=some none) (hv:mA name=some v) (hv':PySem.W.handedIn v=true) (h:Q v { s with toks:=s.toks+1 }) :
    wpAny (model prog w) A (getAttr (.ref x) name expr) Q E s:=by
  obtain ⟨od,J,hl⟩:=I.look
  exact PySem.W.get_value X J (PySem.W.plainGet_of hg).1 (PySem.W.findObj_own hh ha rfl (by rw [hl,hv])) hv' h
theorem get_meth {pl:Sem Bool}{Q:Value × List Value→Shared→Prop}(X:K.In s.heap)(I:ObjM s.heap x dx C mA)(hg:PySem.W.plainGet K C name=true)
    (hf:PySem.W.findIn K (.ref C) name=some (some (.ref f))) (ht:PySem.W.isFn K (.ref f)=true) (hv:mA name=none) (h:Q (.ref f,[.ref x]) s) :
    wpAny (model prog w) A (getMethod (.ref x) name pl) Q E s:=by
  obtain ⟨od,J,hl⟩:=I.look
  exact PySem.W.method_fn X J (PySem.W.plainGet_of hg).1 (PySem.W.plainGet_of hg).2 hf (beq_iff_eq.mp ht) (by show (PySem.W.lookIn name od).map (·.isSome)=some false;rw [hl,hv];rfl) h
theorem set_map {ns:List Str}{Q:Unit→Shared→Prop}(X:K.In s.heap)(I:ObjM s.heap x dx C mA)
    (hs:PySem.W.findIn K (.ref C) "__setattr__"=some (some (.builtin "object.__setattr__"))) (hp:PySem.W.plainOver K C=true) (ht:PySem.W.takerIn K C name=some none) (hh:PySem.W.hasDictIn K C=true)
    (hw:PySem.Within mA ns) (hsz:ns.length≤sizeLine)
    (h:∀ h',ObjM h' x dx C (fun y=>if y=name then some v else mA y)→Heap.SameBut dx s.heap h'→Q () { s with heap:=h',toks:=s.toks+2 }) :
    wpAny (model prog w) A (setAttr (.ref x) name v) Q E s:=by
  obtain ⟨od,J,hl⟩:=I.look
  refine PySem.W.set_plain X J hs (PySem.W.osa_open (s:={ s with toks:=s.toks+1 }) (r:=none) X J hp ht fun b=>?_)
  obtain ⟨cd,hc,hd'⟩:=PySem.W.any_some hh
  have hx:s.heap.get? x=some ⟨.ref C,some dx,.plain,#[]⟩:=I.obj
  refine wpAny_bind (wpAny_pure (wpAny_bind (wpAny_bind (wpAny_loadPart hx (wpAny_bind (PySem.W.Looks.here (s:={ s with toks:=s.toks+1 }) (PySem.W.looks_clsIn X hc) ?_))))))
  rw [hd']
  refine wpAny_pure (a:=some dx) (wpAny_bind (wpAny_pure (wpAny_bind ?_)))
  refine wpAny_nsSet1 (s:={ s with toks:=s.toks+1 }) I.ns fun h' hn2 hs2=>?_
  obtain ⟨oD,esD,epD,hoD,hdD,hcD⟩:=hn2.count (PySem.Within.cons name v hw)
  refine wpAny_bind (wpAny_lookBehind hoD (by rw [hdD];exact pastItsLine_dict (Nat.le_trans hcD (by rw [List.length_cons];omega))) ?_)
  exact wpAny_pure (h _ ⟨(hs2.2 _ (Ne.symm I.ne)).trans I.obj,hn2,I.ne⟩ hs2)
theorem make_map {R:Result→Shared→Prop}{vs:List Value}{kw:List (Str × Value)}(X:K.In s.heap)(hm:PySem.W.makesIn K C=true)
    (hi:PySem.W.findIn K (.ref C) "__init__"=some (some (.ref f))) (hf:PySem.W.typeIn K (.ref f)=some (.type "function"))
    (h:codeAny (model prog w) (A.under (.builtin "type.__call__" ⟨.ref C::vs,kw⟩)) (.call (.ref f) ⟨.ref (s.heap.objs.size+1)::vs,kw⟩) (PySem.W.InitBack (s.heap.objs.size+1) R)
      { s with heap:=(s.heap.push PySem.W.emptyDict).push (PySem.W.instObj C s.heap.objs.size) }) :
    codeAny (model prog w) A (.call (.ref C) ⟨vs,kw⟩) R s:=by
  obtain ⟨hh,g,d,t,os⟩:=s
  exact PySem.W.make_core (PySem.W.makes_of X hm) (PySem.W.looks_findIn X hi) (fun self=>PySem.W.bind_fn X self hf) (.inl rfl) h
end
def putF (f:Str)(v:V):List (Str × V)→List (Str × V)
  | []=>[(f,v)]
  | (g,x)::r=>if g=f then (g,v)::r else (g,x)::putF f v r
theorem lookup_putF (f g:Str) (v:V):∀ fs:List (Str × V),(putF f v fs).lookup g=if g=f then some v else fs.lookup g
  | []=>by
    show List.lookup g [(f,v)]=_
    by_cases h:g=f
    · have hb:(g==f)=true:=beq_iff_eq.mpr h
      simp only [List.lookup,hb,if_pos h]
    · have hb:(g==f)=false:=beq_eq_false_iff_ne.mpr h
      simp only [List.lookup,hb,if_neg h]
  | (k, x)::r=>by
    have ih:=lookup_putF f g v r
    rw [show putF f v ((k,x)::r)=(if k=f then (k,v)::r else (k,x)::putF f v r) from rfl]
    by_cases hk:k=f
    · rw [if_pos hk]
      by_cases h:g=k
      · have hb:(g==k)=true:=beq_iff_eq.mpr h
        simp only [List.lookup,hb,if_pos (h.trans hk)]
      · have hb:(g==k)=false:=beq_eq_false_iff_ne.mpr h
        simp only [List.lookup,hb,if_neg (fun e:g=f=>h (e.trans hk.symm))]
    · rw [if_neg hk]
      by_cases h:g=k
      · have hb:(g==k)=true:=beq_iff_eq.mpr h
        simp only [List.lookup,hb,if_neg (fun e:g=f=>hk (h.symm.trans e))]
      · have hb:(g==k)=false:=beq_eq_false_iff_ne.mpr h
        simp only [List.lookup,hb]
        exact ih
theorem keys_putF (f:Str) (v:V):∀ fs:List (Str × V),f∈(putF f v fs).map (·.1)∧∀ g,g∈fs.map (·.1)→g∈(putF f v fs).map (·.1)
  | []=>⟨by simp [putF],fun g h=>by simp at h⟩
  | (k, x)::r=>by
    obtain ⟨i1,i2⟩:=keys_putF f v r
    rw [show putF f v ((k,x)::r)=(if k=f then (k,v)::r else (k,x)::putF f v r) from rfl]
    by_cases hk:k=f
    · rw [if_pos hk]
      subst hk
      exact ⟨by simp,fun g h=>by simpa using h⟩
    · rw [if_neg hk]
      refine ⟨?_,fun g h=>?_⟩
      · rw [List.map_cons]
        exact List.mem_cons_of_mem _ i1
      · rw [List.map_cons] at h ⊢
        rcases List.mem_cons.mp h with e | e
        · exact List.mem_cons.mpr (.inl e)
        · exact List.mem_cons_of_mem _ (i2 g e)
theorem length_putF (f:Str)(v:V):∀ fs:List (Str × V),(putF f v fs).length≤fs.length+1
  | []=>by simp [putF]
  | (k,x)::r=>by
    have ih:=length_putF f v r
    rw [show putF f v ((k,x)::r)=(if k=f then (k,v)::r else (k,x)::putF f v r) from rfl]
    by_cases hk:k=f
    · rw [if_pos hk,List.length_cons,List.length_cons];omega
    · rw [if_neg hk,List.length_cons,List.length_cons];omega
theorem RelO.some_of {v:V}{o:Option Value}(r:RelO (some v) o):∃ u,o=some u∧RelV v u:=by
  cases o with
  | none=>exact (show False from r).elim
  | some u=>exact ⟨u,rfl,r⟩
theorem RelO.none_of {o:Option Value}(r:RelO none o):o=none:=by
  cases o with
  | none=>rfl
  | some u=>exact (show False from r).elim
theorem handed_of {v:V}{u:Value}(r:RelV v u):PySem.W.handedIn u=true:=by
  cases v with
  | non=>cases (show u=Value.none from r);rfl
  | bl b=>cases (show u=Value.bool b from r);rfl
  | int i=>obtain ⟨t,e⟩:=(show ∃ t,u=Value.int i t from r);cases e;rfl
  | str x=>obtain ⟨t,e⟩:=(show ∃ t,u=Value.str x t from r);cases e;rfl
  | byt b=>obtain ⟨t,e⟩:=(show ∃ t,u=Value.bytes b t from r);cases e;rfl
  | flt b=>obtain ⟨t,e⟩:=(show ∃ t,u=Value.float b t from r);cases e;rfl
  | ref a=>cases (show u=Value.ref a from r);rfl
  | ty n=>cases (show u=Value.type n from r);rfl
section
variable {P:Program}{w:World}{H H':Hp}{h h':Heap}{a C dx:Addr}{fs fs':List (Str × V)}
theorem ins_get (hok:HOk P w H h)(e:H a=some (.ins C dx fs)):∃ mA,ObjM h a dx C mA∧(∀ f,RelO (fs.lookup f) (mA f))∧PySem.Within mA (fs.map (·.1))∧fs.length≤1000∧H dx=some (.own a):=by
  obtain ⟨d,z,ne,ob,mA,n,r,q⟩:=(show ObjOk P w H h a (.ins C dx fs) from hok a _ e)
  exact ⟨mA,⟨ob,n,ne⟩,r,q,z,d⟩
end
structure Cls (K:PySem.W.Frag)(C:Addr):Prop where
  pg:PySem.W.plainGet K C Str.empty=true
  hd:PySem.W.hasDictIn K C=true
  po:PySem.W.plainOver K C=true
  sa:PySem.W.findIn K (.ref C) "__setattr__"=some (some (.builtin "object.__setattr__"))
theorem Cls.get {K:PySem.W.Frag}{C:Addr}(c:Cls K C)(f:Str):PySem.W.plainGet K C f=true:=c.pg
def NoAttr (K:PySem.W.Frag)(C:Addr)(f:Str):Prop:=PySem.W.findIn K (.ref C) f=some none
theorem NoAttr.taker {K:PySem.W.Frag}{C:Addr}{f:Str}(n:NoAttr K C f):PySem.W.takerIn K C f=some none:=by
  unfold PySem.W.takerIn
  rw [show PySem.W.findIn K (.ref C) f=some none from n]
  rfl
structure Con (K:PySem.W.Frag)(C:Addr)(f:Str)(v:V)(u:Value):Prop where
  at_:PySem.W.findIn K (.ref C) f=some (some u)
  rel:RelV v u
  get:PySem.W.specialIn K u "__get__"=some none
  cp:PySem.W.copiedNames.contains f=false
structure Meth (K:PySem.W.Frag)(C:Addr)(m:Str)(f:Addr):Prop where
  at_:PySem.W.findIn K (.ref C) m=some (some (.ref f))
  fn:PySem.W.isFn K (.ref f)=true
  kp:PySem.W.keepIn K (.ref f)=true
section
variable {X:Cx}{pins:List (Addr × Obj)}{σ:St}{H:Hp}{s:Shared}{a C dx:Addr}{fs:List (Str × V)}{f:Str}{v:V}{A:Around}{E:Value→Shared→Prop}
theorem getattr_ok {b:Bool}{Q:Value→Shared→Prop}(I:Inv X pins σ H s)(e:H a=some (.ins C dx fs))(c:Cls X.K C)(n:NoAttr X.K C f)(l:fs.lookup f=some v)
    (h:∀ u s',Inv X pins σ H s'→RelV v u→Q u s'):wpAny (model X.prog X.w) A (getAttr (.ref a) f b) Q E s:=by
  obtain ⟨mA,O,r,_,_,_⟩:=ins_get I.hok e
  obtain ⟨u,hu,ru⟩:=RelO.some_of (v:=v) (o:=mA f) (by rw [← l];exact r f)
  exact get_map I.kIn O (c.get f) c.hd n hu (handed_of ru) (h u _ (I.tok _) ru)
theorem getmeth_ok {m:Str}{g:Addr}{pl:Sem Bool}{Q:Value × List Value→Shared→Prop}(I:Inv X pins σ H s)(e:H a=some (.ins C dx fs))(c:Cls X.K C)(k:Meth X.K C m g)(l:fs.lookup m=none)
    (h:Q (.ref g,[.ref a]) s):wpAny (model X.prog X.w) A (getMethod (.ref a) m pl) Q E s:=by
  obtain ⟨mA,O,r,_,_,_⟩:=ins_get I.hok e
  have hn:mA m=none:=RelO.none_of (by rw [← l];exact r m)
  exact get_meth I.kIn O (c.get m) k.at_ k.fn hn h
theorem setattr_ok {y:V}{u:Value}{Q:Unit→Shared→Prop}(I:Inv X pins σ H s)(e:H a=some (.ins C dx fs))(c:Cls X.K C)(n:NoAttr X.K C f)(hl:fs.length<1000)(ry:RelV y u)
    (h:∀ s',Inv X pins σ (upd H a (.ins C dx (putF f y fs))) s'→Q () s'):wpAny (model X.prog X.w) A (setAttr (.ref a) f u) Q E s:=by
  obtain ⟨mA,O,r,wi,_,ho⟩:=ins_get I.hok e
  have hz:(fs.map (·.1)).length≤sizeLine:=by rw [List.length_map,sizeLine_eq];omega
  refine set_map I.kIn O c.sa c.po n.taker c.hd wi hz fun h' O' sb=>h _ ?_
  have hd:∃ o,h'.get? dx=some o:=let ⟨o,_,_,e',_⟩:=O'.ns;⟨o,e'⟩
  refine I.write (x:=a) (e:=dx) (by rw [e];exact True.intro) (.inr ho) (fun b q hb z=>(sb.2 b hb).trans z) hd ?_
  refine ⟨by rw [upd_ne O.ne];exact ho,?_,O.ne,O'.obj,_,O'.ns,fun g=>?_,fun g hg=>?_⟩
  · have:=length_putF f y fs;omega
  · show RelO ((putF f y fs).lookup g) (if g=f then some u else mA g)
    rw [lookup_putF]
    by_cases q:g=f
    · rw [if_pos q,if_pos q];exact ry
    · rw [if_neg q,if_neg q];exact r g
  · by_cases q:g=f
    · rw [q];exact (keys_putF f y fs).1
    · refine (keys_putF f y fs).2 g (wi g fun z=>hg ?_)
      show (if g=f then some u else mA g)=none
      rw [if_neg q];exact z
theorem Inv.made (I:Inv X pins σ H s):Inv X pins σ (upd (upd H s.heap.objs.size (.own (s.heap.objs.size+1))) (s.heap.objs.size+1) (.ins C s.heap.objs.size []))
    { s with heap:=(s.heap.push PySem.W.emptyDict).push (PySem.W.instObj C s.heap.objs.size) }:=by
  have e1:(s.heap.push PySem.W.emptyDict).get? s.heap.objs.size=some PySem.W.emptyDict:=Heap.get?_push_size s.heap rfl
  have e2:((s.heap.push PySem.W.emptyDict).push (PySem.W.instObj C s.heap.objs.size)).get? (s.heap.objs.size+1)=some (PySem.W.instObj C s.heap.objs.size):=by
    have:=Heap.get?_push_size (s.heap.push PySem.W.emptyDict) (o:=PySem.W.instObj C s.heap.objs.size) rfl
    rwa [Heap.size_push] at this
  have e3:(s.heap.push PySem.W.emptyDict).Ns s.heap.objs.size (fun _=>none):=⟨PySem.W.emptyDict,#[],_,e1,rfl,(fun e he=>absurd he (by simp)),fun _=>rfl⟩
  have I1:=I.laid (a:=s.heap.objs.size) (o:=.own (s.heap.objs.size+1)) (h':=s.heap.push PySem.W.emptyDict) (t':=s.toks) (fun b u q=>Heap.get?_push_of_some _ q) (Nat.le_refl _) ⟨_,e1⟩
  refine I1.laid (a:=s.heap.objs.size+1) (o:=.ins C s.heap.objs.size []) (t':=s.toks) (fun b u q=>Heap.get?_push_of_some _ q) (Nat.le_of_eq (Heap.size_push _ _)) ?_
  have ne:s.heap.objs.size≠s.heap.objs.size+1:=Nat.ne_of_lt (Nat.lt_succ_self _)
  refine ⟨by rw [upd_ne ne,upd_same],Nat.zero_le _,ne,e2,fun _=>none,(Heap.Ns1.of_empty e3).at fun o q=>Heap.get?_push_of_some _ q,fun _=>True.intro,fun y hy=>absurd rfl hy⟩
theorem attr_of {prog:Program}{w:World}{env:Env}{e:Expr}{f:Str}{pos:Pos}{s:Shared}{Q:Value→Shared→Prop}(hb:attributeBase e f env (eval e env)=eval e env)
    (h:wpAny (model prog w) A (eval e env) (fun o s₁=>wpAny (model prog w) A (getAttr o f true) Q E s₁) E s):wpAny (model prog w) A (eval (.Attribute e f pos) env) Q E s :=
  Attribute_any_ h (by rw [arm_eval_Attribute,hb])
end
def tFld (K:PySem.W.Frag)(ta:TE)(f:Str):TE:=fun σ H Q=>ta σ H fun x H1=>∃ a C dx fs v,x=.ref a∧H1 a=some (.ins C dx fs)∧Cls K C∧NoAttr K C f∧fs.lookup f=some v∧Q v H1
def sFld (K:PySem.W.Frag)(ta tv:TE)(f:Str):TS:=fun D σ H=>tv σ H fun y H1=>ta σ H1 fun x H2=>∃ a C dx fs,x=.ref a∧H2 a=some (.ins C dx fs)∧Cls K C∧NoAttr K C f∧fs.length<1000 ∧
  D.nx σ (upd H2 a (.ins C dx (putF f y fs)))
section
variable {X:Cx}{o e value:Expr}{f:Str}{pos pos' tpos:Pos}{ta tv:TE}
theorem pe_fld (he:PE X e ta)(hb:attributeBase e f X.env (eval e X.env)=eval e X.env):PE X (.Attribute e f pos) (tFld X.K ta f):=by
  intro pins s σ H Q I h
  refine attr_of hb (thn (he pins s σ H _ I h) fun u s1 ⟨x,H1,I1,rx,a,C,dx,fs,v,ex,ea,c,n,l,q⟩=>?_)
  subst ex
  obtain rfl:u=Value.ref a:=rx
  exact getattr_ok I1 ea c n l fun u' s2 I2 ru=>⟨v,H1,I2,ru,q⟩
theorem ps_fld (ha:PE X o ta)(hv:PE X value tv)(hs:swapsWith value (some (.Attribute o f pos')) pos.line X.env=pure false):PS X (.Assign [.Attribute o f pos'] value pos) (sFld X.K ta tv f):=by
  intro pins s σ H D I h
  refine plainObj_wpAny_Assign_Attribute (thn (hv pins s σ H _ I h) fun u s1 ⟨y,H1,I1,ry,q⟩=>thn (ha pins s1 σ H1 _ I1 q) fun ov s2 ⟨x,H2,I2,rx,a,C,dx,fs,ex,ea,c,n,l,q2⟩=>?_) hs
  subst ex
  obtain rfl:ov=Value.ref a:=rx
  exact setattr_ok I2 ea c n l ry fun s3 I3=>⟨σ,_,I3,q2⟩
end
section
variable {X:Cx}{pins:List (Addr × Obj)}{σ:St}{H:Hp}{s:Shared}{A:Around}{E:Value→Shared→Prop}{Q:Value→Shared→Prop}{c:Value}{b:Bool}
inductive TyOf (K:PySem.W.Frag) (H:Hp):V→Value→Prop where
  | non:TyOf K H .non (.type "NoneType")
  | bl (x:Bool):TyOf K H (.bl x) (.type "bool")
  | int (i:Int):TyOf K H (.int i) (.type "int")
  | str (x:Str):TyOf K H (.str x) (.type "str")
  | flt (x:UInt64):TyOf K H (.flt x) (.type "float")
  | lst {a:Addr} {xs:List V} (e:H a=some (.lst xs)):TyOf K H (.ref a) (.type "list")
  | frz {a:Addr} {o:Obj} {xs:List V} (e:H a=some (.frz o (.lst xs))):TyOf K H (.ref a) (.type "list")
  | tup {a:Addr} {xs:List V} (e:H a=some (.tup xs)):TyOf K H (.ref a) (.type "tuple")
  | dK {a:Addr} {kvs:List (Key × V)} (e:H a=some (.dK kvs)):TyOf K H (.ref a) (.type "dict")
  | dT {a:Addr} {kvs:List (List Key × V)} (e:H a=some (.dT kvs)):TyOf K H (.ref a) (.type "dict")
  | ins {a C dx:Addr} {fs:List (Str × V)} (e:H a=some (.ins C dx fs)) (cl:Cls K C) (ha:PySem.W.findIn K (.ref C) "__class__"=some (some (.builtin "object.__class__")))
      (hn:PySem.W.specialIn K (.builtin "object.__class__") "__get__"=some (some (.builtin "getset_descriptor.__get__"))) (htk:PySem.W.takesIn K (.builtin "object.__class__")=some true)
      (hm:PySem.W.mroIn K C (.type "object")=some true):TyOf K H (.ref a) (.ref C)
theorem isinst_ok {x:V}{u t:Value}(I:Inv X pins σ H s)(rx:RelV x u)(ty:TyOf X.K H x t)(e:PySem.W.kitOne X.K t c=some b)(h:∀ tk,Q (.bool b) { s with toks:=tk }) :
    wpAny (model X.prog X.w) A (call (.builtin "isinstance") [u,c]) Q E s:=by
  cases ty with
  | non=>cases (show u=Value.none from rx);exact PySem.W.kia_one PySem.W.kitx_none I.kIn True.intro e (fun z=>nomatch z) h
  | bl y=>cases (show u=Value.bool y from rx);exact PySem.W.kia_one PySem.W.kitx_bool I.kIn True.intro e (fun z=>nomatch z) h
  | int i=>obtain ⟨t,q⟩:=(show ∃ t,u=Value.int i t from rx);cases q;exact PySem.W.kia_one PySem.W.kitx_int I.kIn True.intro e (fun z=>nomatch z) h
  | str y=>obtain ⟨t,q⟩:=(show ∃ t,u=Value.str y t from rx);cases q;exact PySem.W.kia_one PySem.W.kitx_str I.kIn True.intro e (fun z=>nomatch z) h
  | flt y=>obtain ⟨t,q⟩:=(show ∃ t,u=Value.float y t from rx);cases q;exact PySem.W.kia_one PySem.W.kitx_float I.kIn True.intro e (fun z=>nomatch z) h
  | @lst a xs ea =>
    cases (show u=Value.ref a from rx)
    obtain ⟨_,_,n,_,h1⟩:=(show ObjOk X.prog X.w H s.heap a (.lst xs) from I.hok a _ ea)
    exact PySem.W.kia_one PySem.W.kitx_list I.kIn ⟨_,h1,rfl⟩ e (fun z=>nomatch z) h
  | @frz a ob xs ea =>
    cases (show u=Value.ref a from rx)
    obtain ⟨_,_,_,n,_,h1⟩:=(show ObjOk X.prog X.w H s.heap a (.frz ob (.lst xs)) from I.hok a _ ea)
    exact PySem.W.kia_one PySem.W.kitx_list I.kIn ⟨_,h1,rfl⟩ e (fun z=>nomatch z) h
  | @tup a xs ea =>
    cases (show u=Value.ref a from rx)
    obtain ⟨_,_,_,p⟩:=(show ObjOk X.prog X.w H s.heap a (.tup xs) from I.hok a _ ea)
    obtain ⟨o,h1,h2,_⟩:=p
    exact PySem.W.kia_one PySem.W.kitx_tuple I.kIn ⟨o,h1,h2⟩ e (fun z=>nomatch z) h
  | @dK a kvs ea =>
    cases (show u=Value.ref a from rx)
    obtain ⟨_,_,vs,_,p⟩:=(show ObjOk X.prog X.w H s.heap a (.dK kvs) from I.hok a _ ea)
    obtain ⟨o,es,ep,h1,h2,_⟩:=p
    exact PySem.W.kia_one PySem.W.kitx_dict I.kIn ⟨o,h1,h2.1⟩ e (fun z=>nomatch z) h
  | @dT a kvs ea =>
    cases (show u=Value.ref a from rx)
    obtain ⟨_,_,xs,_,o,es,ep,h1,h2,_⟩:=(show ObjOk X.prog X.w H s.heap a (.dT kvs) from I.hok a _ ea)
    exact PySem.W.kia_one PySem.W.kitx_dict I.kIn ⟨o,h1,h2.1⟩ e (fun z=>nomatch z) h
  | @ins a C dx fs ea cl ha hn htk hm =>
    cases (show u=Value.ref a from rx)
    obtain ⟨mA,O,_⟩:=ins_get I.hok ea
    obtain ⟨od,J,_⟩:=O.look
    exact PySem.W.kia_one (PySem.W.kitx_own (cl.get _) cl.hd ha hn htk hm) I.kIn J e (fun z=>nomatch z) h
end
end L2
namespace L2
open PySem PySem.Spec PyProof.Rows
structure Room (k:Nat)(A:Around):Prop where
  hd:A.handled=none
  dp:A.depth+3*k+5<recursionLimit
  un:A.units+16*k+200<cLine
theorem Room.mono {j k:Nat}{A:Around}(r:Room k A)(h:j≤k):Room j A:=⟨r.hd,by have:=r.dp;omega,by have:=r.un;omega⟩
theorem Room.deeper {k:Nat}{A:Around}(r:Room (k+1) A)(env:Env):Room k (A.deeper env) :=
  ⟨r.hd,by have:=r.dp;show A.depth+1+3*k+5<_;omega,by have:=r.un;show A.units+3+16*k+200<_;omega⟩
theorem make_depth {A:Around}{C:Addr}{us:List Value}{kw:List (Str × Value)}:(A.under (.builtin "type.__call__" ⟨.ref C::us,kw⟩)).depth=A.depth+1:=by
  first | rfl | simp [Around.under,Code.weight,Code.isCreation,Code.isGuard,Code.isCaller,Code.frames,Code.isFrame,guardIds]
theorem make_units {A:Around}{C:Addr}{us:List Value}{kw:List (Str × Value)}:(A.under (.builtin "type.__call__" ⟨.ref C::us,kw⟩)).units=A.units+1:=by
  first | rfl | simp [Around.under,Code.cUnits,Code.frames,Code.isFrame]
theorem Room.make {k:Nat}{A:Around}(r:Room (k+1) A)(C:Addr)(us:List Value)(kw:List (Str × Value)):Room k (A.under (.builtin "type.__call__" ⟨.ref C::us,kw⟩)) :=
  ⟨r.hd,by have:=r.dp;rw [make_depth];omega,by have:=r.un;rw [make_units];omega⟩
theorem Room.depth {k:Nat}{A:Around}(r:Room k A):A.depth<recursionLimit:=by have:=r.dp;omega
def tNil:TA:=fun _ H Q=>Q [] H
def tCons (ta:TE)(tr:TA):TA:=fun σ H Q=>ta σ H fun x H1=>tr σ H1 fun xs H2=>Q (x::xs) H2
section
variable {X:Cx}{e:Expr}{es:List Expr}{te:TE}{t:TA}{pos:Pos}
theorem pa_nil:PA X [] tNil:=fun _ _ _ _ H Q I h=>Calls.spliced_nil ⟨[],H,I,.nil,h⟩
theorem pa_cons (ha:PE X e te)(hr:PA X es t)(hs:starEach (e::es) X.env=(false,eval e X.env)::starEach es X.env:=by rfl):PA X (e::es) (tCons te t):=by
  intro pos pins s σ H Q I h
  rw [hs]
  show wpAny _ _ (spliced ((false,eval e X.env)::backTo pos (starEach es X.env))) _ _ s
  refine Calls.spliced_cons (thn (ha pins s σ H _ I h) fun u s1 ⟨x,H1,I1,r1,q1⟩=>?_)
  exact thn (hr pos pins s1 σ H1 _ I1 q1) fun us s2 ⟨xs,H2,I2,r2,q2⟩=>⟨x::xs,H2,I2,.cons r1 r2,q2⟩
def tTup (t:TA):TE:=fun σ H Q=>t σ H fun xs H1=>xs.length≤sizeLine∧∀ p,H1 p=none→Q (.ref p) (upd H1 p (.tup xs))
def tLst (t:TA):TE:=fun σ H Q=>t σ H fun xs H1=>xs.length≤sizeLine∧∀ p,H1 p=none→Q (.ref p) (upd H1 p (.lst xs))
theorem pe_tup {x1}(h:PA X es t):PE X (.Tuple es x1 pos) (tTup t):=by
  intro pins s σ H Q I hq
  refine wpAny_Tuple_spliced (thn (h pos pins s σ H _ I hq) fun us s1 ⟨xs,H1,I1,r,z,q⟩=>⟨by rw [← r.length];exact z,?_⟩)
  have hf:H1 s1.heap.objs.size=none:=I1.hok.fresh (Nat.le_refl _)
  refine ⟨.ref s1.heap.objs.size,upd H1 s1.heap.objs.size (.tup xs),I1.laid (t':=s1.toks) (fun b u e=>Heap.get?_push_of_some _ e) (Nat.le_refl _) ?_,rfl,q _ hf⟩
  exact ⟨z,us,r,⟨_,Heap.get?_push_size _ rfl,rfl,_,rfl⟩⟩
theorem pe_lst (h:PA X es t):PE X (.List es pos) (tLst t):=by
  intro pins s σ H Q I hq
  refine wpAny_List_spliced (thn (h pos pins s σ H _ I hq) fun us s1 ⟨xs,H1,I1,r,z,q⟩=>⟨by rw [← r.length];exact z,?_⟩)
  have hf:H1 s1.heap.objs.size=none:=I1.hok.fresh (Nat.le_refl _)
  refine ⟨.ref s1.heap.objs.size,upd H1 s1.heap.objs.size (.lst xs),I1.laid (t':=s1.toks) (fun b u e=>Heap.get?_push_of_some _ e) (Nat.le_refl _) ?_,rfl,q _ hf⟩
  exact ⟨z,us,0,r,Heap.get?_push_size _ rfl⟩
end
abbrev Sp:=List V→Hp→VK→XK→Prop
abbrev CXT:=List Env→Hp→Shared→XK→Value→Shared→Prop
structure Env0 (P:Program)(w:World)(K:PySem.W.Frag)(mg:Str→Option Value)(base:Heap)(A:Around)(outer:List Env)(s:Shared)(H:Hp):Prop where
  frames:A.frames=some outer
  mod:Mod K mg base
  bs:∀ b o,base.get? b=some o→s.heap.get? b=some o∧H b=none
  bsz:base.objs.size≤s.heap.objs.size
  funs:s.heap.FunFrames base outer
  frf:∀ b∈frs outer,H b=none
  hok:HOk P w H s.heap
  bare:AllBare s.gens
def CE (outer:List Env)(P:Program)(w:World)(H:Hp)(s:Shared)(Q:VK)(u:Value)(s':Shared):Prop :=
  ∃ v H',s'.os=s.os∧AllBare s'.gens∧Un (frs outer) [] H H' s.heap s'.heap∧HOk P w H' s'.heap∧RelV v u∧Q v H'
def CR (CX:CXT)(outer:List Env)(P:Program)(w:World)(H:Hp)(s:Shared)(Q:VK)(E:XK)(r:Result)(s':Shared):Prop :=
  match r with
  | .ok (.ret u)=>CE outer P w H s Q u s'
  | .ok _=>False
  | .error e=>CX outer H s E e s'
structure FnOk (P:Program)(w:World)(K:PySem.W.Frag)(mg:Str→Option Value)(base:Heap)(CX:CXT)(k:Nat)(f:Addr)(fd:FuncData)(ps:List Str)(sp:Sp):Prop where
  len:∀ vs H Q E,sp vs H Q E→vs.length=ps.length
  run:∀ (A:Around) (outer:List Env) (s:Shared) (H:Hp) (args:Args) (us:List Value) (vs:List V) (Q:VK) (E:XK),Room k A→Env0 P w K mg base A outer s H→BindsTo s fd args (ps.zip us)→Vals vs us→sp vs H Q E →
    codeAny (model P w) A (.call (.ref f) args) (CR CX outer P w H s Q E) s
theorem FnOk.mono {P:Program}{w:World}{K:PySem.W.Frag}{mg:Str→Option Value}{base:Heap}{CX:CXT}{j k:Nat}{f:Addr}{fd:FuncData}{ps:List Str}{sp:Sp}(F:FnOk P w K mg base CX j f fd ps sp)(h:j≤k) :
    FnOk P w K mg base CX k f fd ps sp:=⟨F.len,fun A outer s H args us vs Q E hr=>F.run A outer s H args us vs Q E (hr.mono h)⟩
theorem Env0.make {P:Program}{w:World}{K:PySem.W.Frag}{mg:Str→Option Value}{base:Heap}{A:Around}{outer:List Env}{s:Shared}{H:Hp}(e:Env0 P w K mg base A outer s H)(C:Addr)(us:List Value)(kw:List (Str × Value)) :
    Env0 P w K mg base (A.under (.builtin "type.__call__" ⟨.ref C::us,kw⟩)) outer s H:=⟨by first | exact e.frames | (simpa [Around.under,Code.envs,Code.isFrame,pushEnvs] using e.frames),e.mod,e.bs,e.bsz,e.funs,e.frf,e.hok,e.bare⟩
section
variable {X:Cx}{pins:List (Addr × Obj)}{σ:St}{H:Hp}{s s':Shared}
theorem Inv.env0 (I:Inv X pins σ H s):Env0 X.prog X.w X.K X.mg X.base X.A X.stack s H :=
  ⟨I.ok.frames,I.ok.mod,I.bs,Nat.le_trans I.ok.bsz I.sz,I.stack,I.stkFree,I.hok,I.bare⟩
theorem Inv.after {Q:VK}{u:Value}(I:Inv X pins σ H s)(h:CE X.stack X.prog X.w H s Q u s'):EP X pins σ Q u s':=by
  obtain ⟨v,H',os,bare,un,hok,r,q⟩:=h
  obtain ⟨hh,g,d,t,os'⟩:=s'
  obtain rfl:os'=s.os:=os
  exact ⟨v,H',I.call (h':=hh) (g':=g) (d':=d) (t':=t) (ch:=[]) un hok bare (fun b z=>absurd z (by simp)),r,q⟩
end
def tCall (sp:Sp)(dvs:List V)(E:XK)(t:TA):TE:=fun σ H Q=>t σ H fun vs H1=>sp (vs++dvs) H1 Q E
def tMake (C:Addr)(sp:Sp)(dvs:List V)(E:XK)(t:TA):TE:=fun σ H Q=>t σ H fun vs H1=>∀ x dx,H1 x=none→H1 dx=none→dx≠x →
  sp (.ref x::(vs++dvs)) (upd (upd H1 dx (.own x)) x (.ins C dx [])) (fun v H2=>v=.non∧Q (.ref x) H2) E
def Binds (K:PySem.W.Frag)(fd:FuncData)(ps:List Str)(ds:List Value):Prop :=
  ∀ (s:Shared) (us:List Value),K.In s.heap→(us++ds).length=ps.length→BindsTo s fd ⟨us,[]⟩ (ps.zip (us++ds))
theorem Binds.all {K:PySem.W.Frag}{fd:FuncData}{ps:List Str}(h:∀ us:List Value,us.length=ps.length→bindArgs fd ⟨us,[]⟩=pure (ps.zip us)):Binds K fd ps []:=fun s us _ hl=>by
  rw [List.append_nil] at hl ⊢
  exact .of_eq (h us hl)
def Passes (CX:CXT)(X:Cx)(E:XK):Prop:=∀ (pins:List (Addr × Obj)) (σ:St) (H:Hp) (s:Shared) (e:Value) (s':Shared),Inv X pins σ H s→CX X.stack H s E e s'→X.xe e s'
section
variable {X:Cx}{CX:CXT}{k:Nat}{f C:Addr}{fd:FuncData}{ps:List Str}{sp:Sp}{dvs:List V}{ds:List Value}{E:XK}{x m:Str}{p pos apos:Pos}{e o:Expr}{es:List Expr}{ta:TE}{t:TA}
theorem run_fn {pins:List (Addr × Obj)}{σ:St}{H:Hp}{s:Shared}{Q:VK}{us:List Value}{vs:List V}(F:FnOk X.prog X.w X.K X.mg X.base CX k f fd ps sp)(hr:Room k X.A)(hb:Binds X.K fd ps ds)(hd:Vals dvs ds)(hx:Passes CX X E)
    (I:Inv X pins σ H s) (r:Vals vs us) (h:sp (vs++dvs) H Q E):wpAny (model X.prog X.w) X.A (call (.ref f) us) (EP X pins σ Q) X.xe s:=by
  have r2:Vals (vs++dvs) (us++ds):=r.append hd
  have hl:(us++ds).length=ps.length:=by rw [← r2.length];exact F.len _ _ _ _ h
  refine wpAny_call (codeAny_mono (F.run X.A X.stack s H ⟨us,[]⟩ (us++ds) (vs++dvs) Q E hr I.env0 (hb s us I.kIn hl) r2 h) fun r s' hq=>?_)
  cases r with
  | error e=>exact hx pins σ H s e s' I hq
  | ok fl =>
    cases fl with
    | ret u=>exact I.after hq
    | next=>exact False.elim hq
    | brk=>exact False.elim hq
    | cont=>exact False.elim hq
theorem pe_call (F:FnOk X.prog X.w X.K X.mg X.base CX k f fd ps sp)(hr:Room k X.A)(hg:Gl X x)(hm:X.mg x=some (.ref f))(hk:PySem.W.keepIn X.K (.ref f)=true)(hb:Binds X.K fd ps ds)(hd:Vals dvs ds)(hx:Passes CX X E)
    (ha:PA X (e::es) t) (hdb:(x==("__debug__":Str))=false:=by decide) (he:starEach (e::es) X.env=(false,eval e X.env)::starEach es X.env:=by rfl) (hpl:(backTo pos (starEach es X.env)).any (·.1)=false:=by rfl) :
    PE X (.Call (.Name x p) (e::es) [] pos) (tCall sp dvs E t):=by
  intro pins s σ H Q I h
  refine wpAny_Call_Name_kw (ld_glob I hg hm ?_ hdb)
  refine PySem.W.callWith_K (h₀:=X.base) I.ok.mod.kin hk (thn (ha pos pins s σ H _ I h) fun us s1 ⟨vs,H1,I1,r,q⟩=>⟨I1.kIn,?_⟩) he hpl
  exact run_fn F hr hb hd hx I1 r q
structure Mk (K:PySem.W.Frag)(C f:Addr):Prop where
  makes:PySem.W.makesIn K C=true
  init:PySem.W.findIn K (.ref C) "__init__"=some (some (.ref f))
  fn:PySem.W.isFn K (.ref f)=true
  kp:PySem.W.keepIn K (.ref C)=true
theorem run_make {pins:List (Addr × Obj)}{σ:St}{H:Hp}{s:Shared}{Q:VK}{us:List Value}{vs:List V}(M:Mk X.K C f)(F:FnOk X.prog X.w X.K X.mg X.base CX k f fd ps sp)(hr:Room (k+1) X.A)(hb:Binds X.K fd ps ds)(hd:Vals dvs ds)
    (hx:Passes CX X E) (I:Inv X pins σ H s) (r:Vals vs us)
    (h:∀ x dx,H x=none→H dx=none→dx≠x→sp (.ref x::(vs++dvs)) (upd (upd H dx (.own x)) x (.ins C dx [])) (fun v H2=>v=.non∧Q (.ref x) H2) E) :
    wpAny (model X.prog X.w) X.A (call (.ref C) us) (EP X pins σ Q) X.xe s:=by
  have hq:=h (s.heap.objs.size+1) s.heap.objs.size (I.hok.fresh (Nat.le_succ _)) (I.hok.fresh (Nat.le_refl _)) (Nat.ne_of_lt (Nat.lt_succ_self _))
  have I2:=Inv.made (C:=C) I
  have r2:Vals (V.ref (s.heap.objs.size+1)::(vs++dvs)) (Value.ref (s.heap.objs.size+1)::(us++ds)):=.cons rfl (r.append hd)
  have hl:(Value.ref (s.heap.objs.size+1)::us++ds).length=ps.length:=by
    have e:=r2.length
    rw [F.len _ _ _ _ hq] at e
    exact e.symm
  refine wpAny_call (make_map (f:=f) I.kIn M.makes M.init (beq_iff_eq.mp M.fn) (codeAny_mono (F.run _ X.stack _ _ ⟨Value.ref (s.heap.objs.size+1)::us,[]⟩ (Value.ref (s.heap.objs.size+1)::(us++ds)) _ _ E (hr.make C us [])
    (I2.env0.make C us []) (hb _ (Value.ref (s.heap.objs.size+1)::us) I2.kIn hl) r2 hq) fun r s' hq'=>?_))
  cases r with
  | error e=>exact hx pins σ _ _ e s' I2 hq'
  | ok fl =>
    cases fl with
    | ret u =>
      obtain ⟨v,H',I3,rv,ev,q3⟩:=I2.after hq'
      subst ev
      exact ⟨rv,⟨V.ref (s.heap.objs.size+1),H',I3,rfl,q3⟩⟩
    | next=>exact False.elim hq'
    | brk=>exact False.elim hq'
    | cont=>exact False.elim hq'
theorem pe_make (M:Mk X.K C f)(F:FnOk X.prog X.w X.K X.mg X.base CX k f fd ps sp)(hr:Room (k+1) X.A)(hg:Gl X x)(hm:X.mg x=some (.ref C))(hb:Binds X.K fd ps ds)(hd:Vals dvs ds)(hx:Passes CX X E)
    (ha:PA X (e::es) t) (hdb:(x==("__debug__":Str))=false:=by decide) (he:starEach (e::es) X.env=(false,eval e X.env)::starEach es X.env:=by rfl) (hpl:(backTo pos (starEach es X.env)).any (·.1)=false:=by rfl) :
    PE X (.Call (.Name x p) (e::es) [] pos) (tMake C sp dvs E t):=by
  intro pins s σ H Q I h
  refine wpAny_Call_Name_kw (ld_glob I hg hm ?_ hdb)
  refine PySem.W.callWith_K (h₀:=X.base) I.ok.mod.kin M.kp (thn (ha pos pins s σ H _ I h) fun us s1 ⟨vs,H1,I1,r,q⟩=>⟨I1.kIn,?_⟩) he hpl
  exact run_make M F hr hb hd hx I1 r q
end
def PK (X:Cx)(kws:List Keyword)(t:TA):Prop :=
  ∀ (pos:Pos) (pins:List (Addr × Obj)) (s:Shared) (σ:St) (H:Hp) (Q:List V→Hp→Prop),Inv X pins σ H s→t σ H Q→wpAny (model X.prog X.w) X.A (evalAll ((backToKw pos (keywordEach kws X.env)).map (·.2))) (AP X pins σ Q) X.xe s
section
variable {X:Cx}{CX:CXT}{k:Nat}{f C:Addr}{fd:FuncData}{ps ks:List Str}{sp:Sp}{E:XK}{x m:Str}{p pos apos kpos:Pos}{e o:Expr}{es:List Expr}{kws:List Keyword}{te ta:TE}{t tk:TA}{nm:Option Str}
theorem pk_nil:PK X [] tNil:=fun _ _ _ _ H Q I h=>wpAny_evalAll_nil ⟨[],H,I,.nil,h⟩
theorem pk_cons (ha:PE X e te)(hr:PK X kws t):PK X (⟨nm,e,kpos⟩::kws) (tCons te t):=by
  intro pos pins s σ H Q I h
  show wpAny _ _ (evalAll ((do let v ← eval e X.env;standAt pos;pure v)::(backToKw pos (keywordEach kws X.env)).map (·.2))) _ _ s
  refine wpAny_evalAll_cons (wpAny_bind (thn (ha pins s σ H _ I h) fun u s1 ⟨x,H1,I1,r1,q1⟩=>wpAny_bind (wpAny_standAt (wpAny_pure ?_))))
  exact thn (hr pos pins s1 σ H1 _ I1 q1) fun us s2 ⟨xs,H2,I2,r2,q2⟩=>⟨x::xs,H2,I2,.cons r1 r2,q2⟩
structure KBinds (K:PySem.W.Frag)(fd:FuncData)(ps ks:List Str)(g:List Value→List Value→List Value)(gV:List V→List V→List V):Prop where
  to:∀ (s:Shared) (us ws:List Value),K.In s.heap→(g us ws).length=ps.length→BindsTo s fd ⟨us,ks.zip ws⟩ (ps.zip (g us ws))
  rel:∀ {vs:List V} {us:List Value} {zs:List V} {ws:List Value},Vals vs us→Vals zs ws→Vals (gV vs zs) (g us ws)
variable {g:List Value→List Value→List Value}{gV:List V→List V→List V}
end
structure FnScope (N P:List Str)(sc:Scope):Prop where
  kind:sc.kind=.function
  co:sc.isCoroutine=false
  gen:sc.isGenerator=false
  nd:N.Nodup
  pre:N.take P.length=P
  par:∀ x∈P,sc.names.lookup x=some .local∨sc.names.lookup x=some .cell
  nofree:∀ y∈sc.names,y.2≠.free
theorem bindL_out {kindOf:Str→Option NameKind}{x:Str}:∀ {binds:List (Str × Value)} {m:Str→Option Value},(∀ v,(x,v)∉binds)→bindL kindOf binds m x=m x
  | [],_,_=>rfl
  | (n,v)::r,m,h=>by
    unfold bindL
    rw [bindL_out fun w hw=>h w (List.mem_cons_of_mem _ hw)]
    split
    · have:x≠n:=by rintro rfl;exact h v List.mem_cons_self
      simp [this]
    · rfl
theorem bindC_out {kindOf:Str→Option NameKind}{x:Str}:∀ {binds:List (Str × Value)} {m:Str→Option Value},(∀ v,(x,v)∉binds)→bindC kindOf binds m x=m x
  | [],_,_=>rfl
  | (n,v)::r,m,h=>by
    unfold bindC
    rw [bindC_out fun w hw=>h w (List.mem_cons_of_mem _ hw)]
    split
    · rfl
    · have:x≠n:=by rintro rfl;exact h v List.mem_cons_self
      simp [this]
theorem bindL_get {kindOf:Str→Option NameKind}{x:Str}{v:Value}:∀ {P:List Str} {vs:List Value} {i:Nat} {m:Str→Option Value},P.Nodup→P[i]?=some x→vs[i]?=some v→kindOf x=some .local →
    bindL kindOf (P.zip vs) m x=some v
  | [],_,_,_,_,h,_,_=>by simp at h
  | _::_,[],_,_,_,_,h,_=>by simp at h
  | p::P,w::vs,0,m,nd,h1,h2,hk=>by
    simp at h1 h2;subst h1;subst h2
    show bindL kindOf ((p,w)::P.zip vs) m p=_
    unfold bindL
    rw [bindL_out fun v hv=>(List.nodup_cons.mp nd).1 (List.of_mem_zip hv).1,if_pos hk]
    simp
  | p::P,w::vs,i+1,m,nd,h1,h2,hk=>by
    show bindL kindOf ((p,w)::P.zip vs) m x=_
    unfold bindL
    exact bindL_get (i:=i) (List.nodup_cons.mp nd).2 (by simpa using h1) (by simpa using h2) hk
theorem bindC_get {kindOf:Str→Option NameKind}{x:Str}{v:Value}:∀ {P:List Str} {vs:List Value} {i:Nat} {m:Str→Option Value},P.Nodup→P[i]?=some x→vs[i]?=some v→kindOf x≠some .local →
    bindC kindOf (P.zip vs) m x=some v
  | [],_,_,_,_,h,_,_=>by simp at h
  | _::_,[],_,_,_,_,h,_=>by simp at h
  | p::P,w::vs,0,m,nd,h1,h2,hk=>by
    simp at h1 h2;subst h1;subst h2
    show bindC kindOf ((p,w)::P.zip vs) m p=_
    unfold bindC
    rw [bindC_out fun v hv=>(List.nodup_cons.mp nd).1 (List.of_mem_zip hv).1,if_neg hk]
    simp
  | p::P,w::vs,i+1,m,nd,h1,h2,hk=>by
    show bindC kindOf ((p,w)::P.zip vs) m x=_
    unfold bindC
    exact bindC_get (i:=i) (List.nodup_cons.mp nd).2 (by simpa using h1) (by simpa using h2) hk
def start (N:List Str)(vs:List V):St:=vs.map some++List.replicate (N.length-vs.length) none
def cxOf (CX:CXT)(P:Program)(w:World)(K:PySem.W.Frag)(mg:Str→Option Value)(base:Heap)(N:List Str)(qual:Str)(scope:Scope)(f:Addr)(cd:Value)(A:Around)(outer:List Env)(s:Shared)(H:Hp)(E:XK):Cx where
  prog:=P
  w:=w
  K:=K
  mg:=mg
  base:=base
  A:=A.deeper (envOfC qual scope s.heap.objs.size f cd)
  N:=N
  s₀:=s
  H₀:=H
  env:=envOfC qual scope s.heap.objs.size f cd
  outer:=outer
  stack:=envOfC qual scope s.heap.objs.size f cd::outer
  ex:=[]
  calm:=true
  fn:=fun _=>true
  pn:=[]
  xe:=fun e s'=>wpAny (model P w) (A.deeper (envOfC qual scope s.heap.objs.size f cd)) (leaving (envOfC qual scope s.heap.objs.size f cd) e) (fun _ s''=>CX outer H s E e s'') (fun e' s''=>CX outer H s E e' s'') s'
theorem cell_has {sc:Scope}{n:Nat}{x:Str}(h:sc.names.lookup x=some .cell):∃ c,(cellsFrom n sc.names []).lookup x=some c:=by
  have q:=PySem.W.cellsFrom_some sc.names n [] (.inl h)
  exact Option.isSome_iff_exists.mp q
theorem inv_start {CX:CXT} {P:Program} {w:World} {K:PySem.W.Frag} {mg:Str→Option Value} {base:Heap} {N ps:List Str} {qual:Str} {scope:Scope} {f:Addr} {cd:Value} {A:Around} {outer:List Env} {s s1:Shared} {H:Hp} {E:XK} {us:List Value} {vs:List V}
    (S:FnScope N ps scope) (hd:A.handled=none) (e0:Env0 P w K mg base A outer s H) (hl:vs.length=ps.length) (r:Vals vs us)
    (x:InCallC s s.heap.objs.size (bindL (envOfC qual scope s.heap.objs.size f cd).kindOf (ps.zip us) fun _=>none) (cellsFrom (s.heap.objs.size+1) scope.names []) (bindC (envOfC qual scope s.heap.objs.size f cd).kindOf (ps.zip us) fun _=>none) s1) :
    Inv (cxOf CX P w K mg base N qual scope f cd A outer s H E) [] (start N vs) H s1:=by
  have hpl:ps.length≤N.length:=by have:=congrArg List.length S.pre;rw [List.length_take] at this;omega
  obtain ⟨h1,tk,rfl,hk⟩:=x.done
  have noA:∀ b:Addr,b∉(cxOf CX P w K mg base N qual scope f cd A outer s H E).ex:=fun b z=>absurd (show b∈([]:List Addr) from z) (by simp)
  refine ⟨⟨e0.mod,S.kind,rfl,rfl,Nat.le_refl _,fun y z c h1 h2=>?_,fun y hy=>?_,fun y c _ h=>?_,fun _=>hd,Around.frames_deeper e0.frames,.inr ⟨rfl,rfl⟩,fun b z=>absurd z (noA b),e0.bs,e0.bsz,fun b _ _=>noA b,fun b z=>absurd z (noA b),e0.funs,e0.frf⟩,
    rfl,e0.bare,Un.kept hk,⟨_,x.toInCall.ns,fun i y v h1 h2 h3=>?_⟩,fun y c h=>⟨_,x.cell y c h⟩,e0.hok.fresh (Nat.le_refl _),fun y c h=>?_,fun p hp=>absurd (show p∈([]:List (Addr × Obj)) from hp) (by simp),e0.hok.kept hk,?_⟩
  · exact name_of_addr x.apart (PySem.mem_of_lookup h1) (PySem.mem_of_lookup h2)
  · have hy:scope.names.lookup y=some .cell∨scope.names.lookup y=some .free:=hy
    rcases hy with hy | hy
    · exact cell_has hy
    · exact absurd rfl (S.nofree _ (PySem.mem_of_lookup hy))
  · exact Nat.le_of_lt (x.above y c (PySem.mem_of_lookup h))
  · have hi:i<vs.length:=by
      unfold start at h2
      by_cases hi:i<vs.length
      · exact hi
      · rw [List.getElem?_append_right (by simpa using hi)] at h2
        rw [List.getElem?_replicate] at h2
        split at h2<;>cases h2
    have ha:vs[i]?=some v:=by
      unfold start at h2
      rw [List.getElem?_append_left (by simpa using hi),List.getElem?_map] at h2
      cases e:vs[i]? with
      | none=>rw [e] at h2;cases h2
      | some a=>rw [e] at h2;cases h2;rfl
    obtain ⟨u,hu,rv⟩:=r.get ha
    have hp:ps[i]?=some y:=by
      rw [← S.pre,List.getElem?_take_of_lt (by omega)];exact h1
    have ndP:ps.Nodup:=by rw [← S.pre];exact S.nd.sublist (List.take_sublist _ _)
    refine ⟨u,rv,?_⟩
    rcases S.par y (List.mem_of_getElem? hp) with k | k
    · exact .inl ⟨k,bindL_get ndP hp hu k⟩
    · obtain ⟨c,e⟩:=cell_has (n:=s.heap.objs.size+1) k
      refine .inr ⟨.inl k,c,e,?_⟩
      have q:=x.cell y c e
      rw [bindC_get ndP hp hu (by show scope.names.lookup y≠_;rw [k];decide)] at q
      exact q
  · exact e0.hok.fresh (Nat.le_of_lt (x.above y c (PySem.mem_of_lookup h)))
  · unfold start
    show _=N.length
    rw [List.length_append,List.length_map,List.length_replicate]
    omega
theorem fn_of {CX:CXT}{P:Program}{w:World}{K:PySem.W.Frag}{mg:Str→Option Value}{base:Heap}{k:Nat}{f:Addr}{name qual:Str}{params:Arguments}{body:List Stmt}{scope:Scope}{dV kV doc pm cdv ct oc:Value}{an od:Option Addr}
    {osl:Array (Option Value)} {N ps:List Str} {sp:Sp} (lk:K.lookup f=some ⟨oc,od,.func (PySem.W.fnOf name qual params body scope dV kV doc pm an cdv ct),osl⟩) (hcd:PySem.W.codeIn K cdv qual=true) (S:FnScope N ps scope)
    (len:∀ vs H Q E,sp vs H Q E→vs.length=ps.length)
    (hbody:∀ (A:Around) (outer:List Env) (s:Shared) (H:Hp) (vs:List V) (Q:VK) (E:XK),Room k (A.deeper (envOfC qual scope s.heap.objs.size f cdv))→sp vs H Q E →
      ∃ t,PSs (cxOf CX P w K mg base N qual scope f cdv A outer s H E) body t∧t { nx:=fun _ H'=>Q .non H',rt:=Q } (start N vs) H) :
    FnOk P w K mg base CX (k+1) f (PySem.W.fnOf name qual params body scope dV kV doc pm an cdv ct) ps sp:=by
  refine ⟨len,fun A outer s H args us vs Q E hr e0 hb r hsp=>?_⟩
  have hl:=len _ _ _ _ hsp
  have KX:K.In s.heap:=e0.mod.kin.keeps fun b o e=>(e0.bs b o e).1
  have lim:s.heap.NoLimit:=e0.mod.nolimit.keeps fun b o e=>(e0.bs b o e).1
  have hkind:∀ y∈ps.zip us,scope.names.lookup y.1=some .local∨(scope.names.lookup y.1=some .cell∧((cellsFrom (s.heap.objs.size+1) scope.names []).lookup y.1).isSome=true):=fun ⟨n,v⟩ hy=>by
    rcases S.par n (List.of_mem_zip hy).1 with q | q
    · exact .inl q
    · exact .inr ⟨q,PySem.W.cellsFrom_some _ _ _ (.inl q)⟩
  refine codeAny_call_function hr.depth (KX _ _ lk) rfl S.co S.gen rfl (PySem.W.codeRec_of KX hcd) (hb _ _ _ _ ?_)
  refine wpAny_newFunctionEnv_cells S.kind hkind fun env he s1 x=>?_
  subst he
  refine ⟨lim.keeps x.toInCall.keep,codeAny_func ?_⟩
  obtain ⟨t,ht,hq⟩:=hbody A outer s H vs Q E (hr.deeper _) hsp
  have I:Inv (cxOf CX P w K mg base N qual scope f cdv A outer s H E) [] (start N vs) H s1:=inv_start S hr.hd e0 hl r x
  refine wpAny_mono (ht [] s1 (start N vs) H _ I hq) (fun fl s' hs=>?_) fun e s' hs=>hs
  have fin:∀ {σ':St} {H':Hp} {v:V} {u:Value},Inv (cxOf CX P w K mg base N qual scope f cdv A outer s H E) [] σ' H' s'→RelV v u→Q v H'→CE outer P w H s Q u s' :=
    fun {σ' H' v u} J rv q=>⟨v,H',J.os,J.bare,J.base,J.hok,rv,q⟩
  cases fl with
  | ret u =>
    obtain ⟨v,σ',H',J,rv,q⟩:=hs
    exact fin J rv q
  | next =>
    obtain ⟨σ',H',J,q⟩:=hs
    exact fin (v:=V.non) (u:=Value.none) J rfl q
  | brk =>
    obtain ⟨_,_,_,q⟩:=hs
    exact False.elim q
  | cont =>
    obtain ⟨_,_,_,q⟩:=hs
    exact False.elim q
end L2
namespace L2
open PySem PySem.Spec PyProof.Rows
section
variable {X:Cx}{x:Str}{p pos:Pos}{e:Expr}{es:List Expr}{t:TA}{id T:String}{r:List V→Hp→VK→Prop}
def tCB (r:List V→Hp→VK→Prop)(t:TA):TE:=fun σ H Q=>t σ H fun vs H1=>r vs H1 Q
theorem pe_callB (hc:CallR X (.builtin id) r)(hg:Gl X x)(hm:X.mg x=none)(hv:bootBuiltins x=some (.builtin id))(ha:PA X (e::es) t)(hn:x≠"__name__":=by decide)(hdb:(x==("__debug__":Str))=false:=by decide)
    (he:starEach (e::es) X.env=(false,eval e X.env)::starEach es X.env:=by rfl) (hpl:(backTo pos (starEach es X.env)).any (·.1)=false:=by rfl):PE X (.Call (.Name x p) (e::es) [] pos) (tCB r t):=by
  intro pins s σ H Q I h
  refine wpAny_Call_Name_kw (ld_blt I hg hm hv ?_ hn hdb)
  exact PyProof.Rows.callWith_builtin1 (thn (ha pos pins s σ H _ I h) fun us s1 ⟨vs,H1,I1,r1,q1⟩=>hc pins s1 σ H1 vs us Q I1 r1 q1) he hpl
theorem pe_callTy (hc:CallR X (.type T) r)(hg:Gl X x)(hm:X.mg x=none)(hv:bootBuiltins x=some (.type T))(ha:PA X (e::es) t)(hn:x≠"__name__":=by decide)(hdb:(x==("__debug__":Str))=false:=by decide)
    (he:starEach (e::es) X.env=(false,eval e X.env)::starEach es X.env:=by rfl) (hpl:(backTo pos (starEach es X.env)).any (·.1)=false:=by rfl):PE X (.Call (.Name x p) (e::es) [] pos) (tCB r t):=by
  intro pins s σ H Q I h
  refine wpAny_Call_Name_kw (ld_blt I hg hm hv ?_ hn hdb)
  exact PyProof.Rows.callWith_type1 (thn (ha pos pins s σ H _ I h) fun us s1 ⟨vs,H1,I1,r1,q1⟩=>hc pins s1 σ H1 vs us Q I1 r1 q1) he hpl
end
end L2
namespace HT
open PySem PyProof.Rows
section
open PySem.SeqAt
open PySem.AutoSeq1 (wpAny_loadPart')
open PySem.MeetsSeq PySem.MeetsSeq2 PySem.MeetsSeq3
end
section
variable {prog:Program}{w:World}{A:Around}{E:Value→Shared→Prop}{s:Shared}
def sIx (n d:Nat):Option Int→Nat
  | none=>d
  | some v=>if v<0 then (v+(n:Int)).toNat else min v.toNat n
theorem sIx_nat (n d k:Nat):sIx n d (some (k:Int))=min k n:=by
  show (if (k:Int)<0 then ((k:Int)+(n:Int)).toNat else min (k:Int).toNat n)=min k n
  rw [if_neg (by omega),Int.toNat_natCast]
end
end HT
namespace L2
open PySem PySem.Spec PyProof.Rows
abbrev TO:=St→Hp→(Option Int→Hp→Prop)→Prop
def PO (X:Cx) (e:Option Expr) (t:TO):Prop :=
  ∀ (pins:List (Addr × Obj)) (s:Shared) (σ:St) (H:Hp) (Q:Option Int→Hp→Prop),Inv X pins σ H s→t σ H Q →
    wpAny (model X.prog X.w) X.A (evalPart e X.env) (fun u s'=>∃ o H',Inv X pins σ H' s'∧IsPart u o∧Q o H') X.xe s
def tNoPart:TO:=fun _ H Q=>Q none H
def tPart (t:TE):TO:=fun σ H Q=>t σ H fun x H1=>∃ i,x=.int i∧Q (some i) H1
theorem intsAre_of {ns:List Int}:∀ {us:List Value},Vals (ns.map V.int) us→IntsAre us ns:=by
  induction ns with
  | nil=>intro us r;rw [List.map_nil] at r;cases r;exact .nil
  | cons n ns ih =>
    intro us r
    rw [List.map_cons] at r
    cases r with
    | cons r1 r2 =>
      obtain ⟨t,e⟩:=r1
      subst e
      exact .cons n t (ih r2)
section
variable {X:Cx}{e:Expr}{te:TE}{lo hi:Option Expr}{tl th:TO}{pos p2:Pos}
theorem po_none:PO X none tNoPart:=by
  intro pins s σ H Q I h
  rw [evalPart_none]
  exact wpAny_pure ⟨none,H,I,.none,h⟩
theorem po_some (h:PE X e te):PO X (some e) (tPart te):=by
  intro pins s σ H Q I hw
  rw [evalPart_some]
  refine thn (h pins s σ H _ I hw) fun u s1 ⟨x,H1,I1,r1,q1⟩=>?_
  obtain ⟨i,rfl,q⟩:=q1
  obtain ⟨t,rfl⟩:=r1
  exact ⟨some i,H1,I1,.int i t,q⟩
def SlR (X:Cx) (r:V→Option Int→Option Int→Hp→VK→Prop):Prop :=
  ∀ (pins:List (Addr × Obj)) (s:Shared) (σ:St) (H:Hp) (x:V) (v vl vu:Value) (lo hi:Option Int) (sl:Addr) (Q:VK),Inv X pins σ H s→RelV x v→s.heap.IsSliceOf sl vl vu .none→IsPart vl lo→IsPart vu hi→r x lo hi H Q →
    ∃ T id,typeLookup (.type T) "__getitem__"=pure (some (.builtin id))∧s.TypeIs v T∧wpAny (model X.prog X.w) X.A (getItem v (.ref sl)) (EP X pins σ Q) X.xe s
def tSl (r:V→Option Int→Option Int→Hp→VK→Prop)(te:TE)(tl th:TO):TE:=fun σ H Q=>te σ H fun x H1=>tl σ H1 fun l H2=>th σ H2 fun u H3=>r x l u H3 Q
theorem pe_slice {r:V→Option Int→Option Int→Hp→VK→Prop}(hr:SlR X r)(he:PE X e te)(hl:PO X lo tl)(hu:PO X hi th):PE X (.Subscript e (.Slice lo hi none p2) pos) (tSl r te tl th):=by
  intro pins s σ H Q I h
  refine Subscript_ (thn (he pins s σ H _ I h) fun v s1 ⟨x,H1,I1,r1,q1⟩=>?_)
  refine wpAny_Slice (thn (hl pins s1 σ H1 _ I1 q1) fun vl s2 ⟨l,H2,I2,pl,q2⟩=>thn (hu pins s2 σ H2 _ I2 q2) fun vu s3 ⟨u,H3,I3,pu,q3⟩=>?_)
  rw [evalPart_none]
  refine wpAny_pure ?_
  have I4:Inv X pins σ H3 { s3 with heap:=s3.heap.push { cls:=.type "slice",data:=.fields #[vl,vu,.none] } }:=I3.kept (t':=s3.toks) fun b ob q=>Heap.get?_push_of_some _ q
  obtain ⟨T,id,hT,ht,hg⟩:=hr pins { s3 with heap:=s3.heap.push { cls:=.type "slice",data:=.fields #[vl,vu,.none] } } σ H3 x v vl vu l u s3.heap.objs.size Q I4 r1 (Heap.IsSliceOf.new ..) pl pu q3
  show wpAny (model X.prog X.w) X.A (subscriptTail e (.Slice lo hi none p2) v (.ref s3.heap.objs.size)) (EP X pins σ Q) X.xe { s3 with heap:=s3.heap.push { cls:=.type "slice",data:=.fields #[vl,vu,.none] } }
  exact tail_any (ops:=[.ref s3.heap.objs.size,v]) ht hT hg (by with_unfolding_all rfl)
def cutV (xs:List V)(lo hi:Option Int):List V:=(xs.drop (HT.sIx xs.length 0 lo)).take (HT.sIx xs.length xs.length hi-HT.sIx xs.length 0 lo)
theorem cutV_length (xs:List V)(lo hi:Option Int):(cutV xs lo hi).length≤xs.length:=by
  unfold cutV
  rw [List.length_take,List.length_drop]
  omega
end
end L2
namespace L2
open PySem PySem.Spec PyProof.Rows
def ixN (n:Nat)(i:Int):Option Nat:=if 0≤i then (if i<n then some i.toNat else none) else if -(n:Int)≤i then some (i+n).toNat else none
def atI {α:Type}(xs:List α)(i:Int):Option α:=(ixN xs.length i).bind fun j=>xs[j]?
theorem ixN_seq {n:Nat}{i:Int}{j:Nat}(h:ixN n i=some j):seqIndex? i n=some j∧j<n∧-(n:Int)≤i∧i<n:=by
  unfold ixN at h
  by_cases h0:0≤i
  · rw [if_pos h0] at h
    by_cases h1:i<n
    · rw [if_pos h1] at h
      have e:i.toNat=j:=Option.some.inj h
      exact ⟨by rw [seqIndex_of h0 h1,e],by omega,by omega,h1⟩
    · rw [if_neg h1] at h;cases h
  · rw [if_neg h0] at h
    by_cases h1:-(n:Int)≤i
    · rw [if_pos h1] at h
      have e:(i+n).toNat=j:=Option.some.inj h
      exact ⟨by rw [seqIndex_neg (by omega) h1,e],by omega,h1,by omega⟩
    · rw [if_neg h1] at h;cases h
theorem atI_get {α:Type}{xs:List α}{i:Int}{v:α}(h:atI xs i=some v):∃ j,seqIndex? i xs.length=some j∧xs[j]?=some v∧j<xs.length∧-(xs.length:Int)≤i∧i<xs.length:=by
  unfold atI at h
  cases e:ixN xs.length i with
  | none=>rw [e] at h;cases h
  | some j =>
    rw [e] at h
    obtain ⟨h1,h2,h3,h4⟩:=ixN_seq e
    exact ⟨j,h1,h,h2,h3,h4⟩
theorem atI_nat {α:Type}{xs:List α}{j:Nat}{v:α}(h:xs[j]?=some v):atI xs (j:Int)=some v:=by
  have hj:j<xs.length:=(List.getElem?_eq_some_iff.mp h).1
  have e:ixN xs.length (j:Int)=some j:=by
    unfold ixN
    rw [if_pos (by omega),if_pos (by omega)];simp
  unfold atI;rw [e];exact h
theorem atI_last {α:Type}(xs:List α)(v:α):atI (xs++[v]) (-1)=some v:=by
  have hl:(xs++[v]).length=xs.length+1:=by simp
  have e:ixN (xs++[v]).length (-1)=some xs.length:=by
    unfold ixN
    rw [hl,if_neg (by decide),if_pos (by omega)]
    congr 1
    omega
  unfold atI
  rw [e]
  show (xs++[v])[xs.length]?=some v
  simp
def PlainIx (b:Expr):Prop:=∀ o i,subscripted b false o i=operate [o,i] (getItem o i)
def IxR (X:Cx) (r:R2):Prop :=
  ∀ (value slice:Expr) (pins:List (Addr × Obj)) (s:Shared) (σ:St) (H:Hp) (x y:V) (v u:Value) (Q:VK),Inv X pins σ H s→RelV x v→RelV y u→r x y H Q →
    subscripted slice false v u=operate [v,u] (getItem v u)→wpAny (model X.prog X.w) X.A (subscriptTail value slice v u) (EP X pins σ Q) X.xe s
def MtR (X:Cx) (id:String) (r:V→List V→Hp→VK→Prop):Prop :=
  ∀ (pins:List (Addr × Obj)) (s:Shared) (σ:St) (H:Hp) (x:V) (xs:List V) (v:Value) (us:List Value) (Q:VK),Inv X pins σ H s→RelV x v→Vals xs us→r x xs H Q →
    wpAny (model X.prog X.w) X.A (call (.builtin id) (v::us)) (EP X pins σ Q) X.xe s
section
variable {X:Cx}{a b:Expr}{ta tb:TE}{pos:Pos}
theorem pe_ix {r:R2}(hr:IxR X r)(ha:PE X a ta)(hb:PE X b tb)(hs:PlainIx b):PE X (.Subscript a b pos) (tOp r ta tb):=by
  intro pins s σ H Q I h
  exact Subscript_ (binT ha hb I h fun v u s2 x y H2 I2 rx ry q=>hr a b pins s2 σ H2 x y v u Q I2 rx ry q (hs _ _))
def rIxL (K:PySem.W.Frag):R2:=fun x y H Q=>∃ p xs i v,x=.ref p∧y=.int i∧SqL K H p xs∧atI xs i=some v∧Q v H
def rIxT (K:PySem.W.Frag):R2:=fun x y H Q=>∃ p xs i v,x=.ref p∧y=.int i∧SqT K H p xs∧atI xs i=some v∧Q v H
def rIxS:R2:=fun x y H Q=>∃ z i c,x=.str z∧y=.int i∧z.length≤sizeLine∧atI z.cps.toList i=some c∧Q (.str ⟨#[c]⟩) H
theorem ix_list:IxR X (rIxL X.K):=by
  intro value slice pins s σ H x y v u Q I rx ry h hs
  obtain ⟨p,xs,i,z,rfl,rfl,hq,he,q⟩:=h
  cases rx
  obtain ⟨t,rfl⟩:=ry
  obtain ⟨its,r,pl,hz⟩:=I.list hq
  obtain ⟨j,h1,h2,h3,h4,h5⟩:=atI_get he
  obtain ⟨w,ew,rw'⟩:=r.get h2
  have hl:=r.length
  have hn:=line63
  have fin:EP X pins σ Q w s:=⟨z,H,I,rw',q⟩
  by_cases h0:0≤i
  · have hj:i.toNat=j:=by
      rw [seqIndex_of h0 h5] at h1
      exact Option.some.inj h1
    exact item_listR pl.isList h0 (by omega) (by rw [hj];simpa using ew) fin hs
  · have hj:(i+(its.toArray.size:Int)).toNat=j:=by
      rw [seqIndex_neg (by omega) h4] at h1
      rw [List.size_toArray,← hl]
      exact Option.some.inj h1
    exact subscriptTail_builtinR (x:=w) pl.isList.typeIs slot_list_getitem.lookup
      (wpAny_getItem_list_neg (Q:=fun r s'=>r=w∧EP X pins σ Q r s') pl.isList (by omega) (by rw [List.size_toArray]<;>omega) (by omega) (by rw [hj];simpa using ew) ⟨rfl,fin⟩) hs
theorem ix_tup:IxR X (rIxT X.K):=by
  intro value slice pins s σ H x y v u Q I rx ry h hs
  obtain ⟨p,xs,i,z,rfl,rfl,hq,he,q⟩:=h
  cases rx
  obtain ⟨t,rfl⟩:=ry
  obtain ⟨its,r,pl,hz⟩:=I.tuple hq
  obtain ⟨j,h1,h2,h3,h4,h5⟩:=atI_get he
  obtain ⟨w,ew,rw'⟩:=r.get h2
  have hl:=r.length
  have hn:=line63
  have fin:EP X pins σ Q w s:=⟨z,H,I,rw',q⟩
  exact subscriptTail_builtinR (x:=w) pl.typeIs slot_tuple_getitem.lookup
    (getItem_tuple (j:=j) (Q:=fun r s'=>r=w∧EP X pins σ Q r s') pl (by omega) (by omega) (by rw [List.size_toArray,← hl];exact h1) (by simpa using ew) ⟨rfl,fin⟩) hs
theorem ix_str:IxR X rIxS:=by
  intro value slice pins s σ H x y v u Q I rx ry h hs
  obtain ⟨z,i,c,rfl,rfl,hz,he,q⟩:=h
  obtain ⟨t,rfl⟩:=rx
  obtain ⟨t',rfl⟩:=ry
  obtain ⟨j,h1,h2,h3,h4,h5⟩:=atI_get he
  have hl:z.cps.toList.length=z.length:=by simp [Str.length]
  rw [hl] at h1 h4 h5
  have hn:=line63
  exact tail_any (typeIs_str s z t) slot_str_getitem.lookup (getItem_str (c:=c) (by
    have e1:decide (i < -(2^63:Int))=false:=decide_eq_false (by omega)
    have e2:decide (i≥2^63)=false:=decide_eq_false (by omega)
    rw [e1,e2,Bool.or_false]) (by rw [h1];simpa using h2) ⟨.str ⟨#[c]⟩,H,I.tok _,⟨_,rfl⟩,q⟩) hs
theorem slice_bounds (lo hi:Option Int)(n:Nat):(sliceBounds lo hi none n).1=((HT.sIx n 0 lo:Nat):Int)∧(sliceBounds lo hi none n).2.1=((HT.sIx n n hi:Nat):Int)∧(sliceBounds lo hi none n).2.2=1:=by
  refine ⟨?_,?_,rfl⟩
  · cases lo with
    | none=>simp [sliceBounds,HT.sIx]
    | some i =>
      simp only [sliceBounds,HT.sIx,Option.getD_none,show (1:Int) > 0 by decide,if_true]
      by_cases h:i<0
      · simp only [h,if_true]<;>omega
      · simp only [h,if_false]<;>omega
  · cases hi with
    | none=>simp [sliceBounds,HT.sIx]
    | some i =>
      simp only [sliceBounds,HT.sIx,Option.getD_none,show (1:Int) > 0 by decide,if_true]
      by_cases h:i<0
      · simp only [h,if_true]<;>omega
      · simp only [h,if_false]<;>omega
theorem slicePick_cut (its:List Value)(lo hi:Option Int):slicePick its.toArray lo hi none=((its.drop (HT.sIx its.length 0 lo)).take (HT.sIx its.length its.length hi-HT.sIx its.length 0 lo)).toArray:=by
  obtain ⟨h1,h2,h3⟩:=slice_bounds lo hi its.toArray.size
  unfold slicePick
  rw [h1,h2,h3]
  simp only [sliceRange_one,pick_run,List.size_toArray]<;>rfl
def rSlL (K:PySem.W.Frag):V→Option Int→Option Int→Hp→VK→Prop:=fun x lo hi H Q=>∃ a xs,x=.ref a∧SqL K H a xs∧∀ p,H p=none→Q (.ref p) (upd H p (.lst (cutV xs lo hi)))
theorem sl_list:SlR X (rSlL X.K):=by
  intro pins s σ H x v vl vu lo hi sl Q I rx hs pl pu h
  obtain ⟨a,xs,rfl,hx,q⟩:=h
  cases rx
  obtain ⟨its,r,ht,hz⟩:=I.list hx
  have hlen:=r.length
  refine ⟨"list",_,slot_list_getitem.lookup,ht.isList.typeIs,?_⟩
  refine wpAny_getItem_list_slice ht.isList hs pl pu .none (by simp) ?_ (by rw [List.size_toArray]<;>omega)
  rw [slicePick_cut,← hlen]
  refine ⟨.ref s.heap.objs.size,_,I.laid (t':=s.toks) (o:=.lst (cutV xs lo hi)) (fun b ob q=>Heap.get?_push_of_some _ q) (Nat.le_refl _) ?_,rfl,q _ (I.hok.fresh (Nat.le_refl _))⟩
  exact ⟨Nat.le_trans (cutV_length xs lo hi) hz,_,0,(r.drop (HT.sIx xs.length 0 lo)).take (HT.sIx xs.length xs.length hi-HT.sIx xs.length 0 lo),Heap.get?_push_size _ rfl⟩
def flatV:V→Bool
  | .non=>true
  | .bl _=>true
  | .int _=>true
  | .str _=>true
  | _=>false
def eqV:V→V→Bool
  | .non,.non=>true
  | .bl a,.bl b=>a==b
  | .bl a,.int b=>(if a then 1 else 0)==b
  | .int a,.bl b=>a==(if b then 1 else 0)
  | .int a,.int b=>a==b
  | .str a,.str b=>a==b
  | _,_=>false
theorem eqAt_V {A:Around}{s:Shared}{y x:V}{u v:Value}(ry:RelV y u)(rx:RelV x v)(fy:flatV y=true)(fx:flatV x=true):SeqAt.EqAt A s u v (eqV y x):=by
  cases y with
  | non =>
    cases ry
    cases x with
    | non=>cases rx;exact SeqAt.EqAt.same _
    | bl b=>cases rx;exact SeqAt.EqAt.none_bool b
    | int b=>obtain ⟨t,rfl⟩:=rx;exact SeqAt.EqAt.none_int b t
    | str b=>obtain ⟨t,rfl⟩:=rx;exact SeqAt.EqAt.none_str b t
    | _=>exact absurd (show false=true from fx) Bool.false_ne_true
  | bl a =>
    cases ry
    cases x with
    | non=>cases rx;exact SeqAt.EqAt.bool_none a
    | bl b=>cases rx;exact SeqAt.EqAt.bool_bool a b
    | int b=>obtain ⟨t,rfl⟩:=rx;exact SeqAt.EqAt.bool_int a b t
    | str b=>obtain ⟨t,rfl⟩:=rx;exact SeqAt.EqAt.bool_str a b t
    | _=>exact absurd (show false=true from fx) Bool.false_ne_true
  | int a =>
    obtain ⟨t',rfl⟩:=ry
    cases x with
    | non=>cases rx;exact SeqAt.EqAt.int_none a t'
    | bl b=>cases rx;exact SeqAt.EqAt.int_bool a t' b
    | int b=>obtain ⟨t,rfl⟩:=rx;exact SeqAt.EqAt.int_int a t' b t
    | str b=>obtain ⟨t,rfl⟩:=rx;exact SeqAt.EqAt.int_str a t' b t
    | _=>exact absurd (show false=true from fx) Bool.false_ne_true
  | str a =>
    obtain ⟨t',rfl⟩:=ry
    cases x with
    | non=>cases rx;exact SeqAt.EqAt.str_none a t'
    | bl b=>cases rx;exact SeqAt.EqAt.str_bool a t' b
    | int b=>obtain ⟨t,rfl⟩:=rx;exact SeqAt.EqAt.str_int a t' b t
    | str b=>obtain ⟨t,rfl⟩:=rx;exact SeqAt.EqAt.str_str a t' b t
    | _=>exact absurd (show false=true from fx) Bool.false_ne_true
  | _=>exact absurd (show false=true from fy) Bool.false_ne_true
def eqU (x:V)(u:Value):Bool:=match u with
  | .none=>eqV .non x
  | .bool b=>eqV (.bl b) x
  | .int i _=>eqV (.int i) x
  | .str z _=>eqV (.str z) x
  | _=>false
theorem eqU_of {x y:V}{u:Value}(r:RelV y u)(f:flatV y=true):eqU x u=eqV y x:=by
  cases y with
  | non=>cases r;rfl
  | bl b=>cases r;rfl
  | int i=>obtain ⟨t,rfl⟩:=r;rfl
  | str z=>obtain ⟨t,rfl⟩:=r;rfl
  | _=>exact absurd (show false=true from f) Bool.false_ne_true
theorem any_eqU {x:V}:∀ {xs:List V} {us:List Value},Vals xs us→xs.all flatV=true→us.any (eqU x)=xs.any fun y=>eqV y x
  | _,_,.nil,_=>rfl
  | y::xs,u::us,.cons r t,f=>by
    rw [List.all_cons,Bool.and_eq_true] at f
    rw [List.any_cons,List.any_cons,eqU_of r f.1,any_eqU t f.2]
theorem mem_eqAt {A:Around}{s:Shared}{x:V}{v:Value}(rx:RelV x v)(fx:flatV x=true):∀ {xs:List V} {us:List Value},Vals xs us→xs.all flatV=true→∀ u∈us,SeqAt.EqAt A s u v (eqU x u)
  | _,_,.nil,_=>fun u hu=>by cases hu
  | y::xs,u::us,.cons r t,f=>fun u' hu=>by
    rw [List.all_cons,Bool.and_eq_true] at f
    rcases List.mem_cons.mp hu with rfl | hu
    · rw [eqU_of r f.1];exact eqAt_V r rx f.1 fx
    · exact mem_eqAt rx fx t f.2 u' hu
def inV (x:V)(xs:List V):Bool:=xs.any fun y=>eqV y x
def rIn (K:PySem.W.Frag)(neg:Bool):R2:=fun x y H Q=>∃ p xs,y=.ref p∧(SqL K H p xs∨SqT K H p xs)∧flatV x=true∧xs.all flatV=true∧Q (.bl (if neg then !inV x xs else inV x xs)) H
theorem op_in_seq:OpR X (compareOp .In) (rIn X.K false):=by
  intro pins s σ H x y v u Q I rx ry h
  obtain ⟨p,xs,rfl,hq,fx,fs,q⟩:=h
  cases ry
  rcases hq with hq | hq
  · obtain ⟨its,r,pl,hz⟩:=I.list hq
    refine SeqAt.in_listAt (eqU x) pl.isList (fun w hw=>mem_eqAt rx fx r fs w (by simpa using hw)) ⟨.bl _,H,I,rfl,?_⟩
    rw [show its.toArray.any (eqU x)=its.any (eqU x) by simp,any_eqU r fs]
    exact q
  · obtain ⟨its,r,pl,hz⟩:=I.tuple hq
    refine SeqAt.in_tupleAt (eqU x) pl (fun w hw=>mem_eqAt rx fx r fs w (by simpa using hw)) ⟨.bl _,H,I,rfl,?_⟩
    rw [show its.toArray.any (eqU x)=its.any (eqU x) by simp,any_eqU r fs]
    exact q
theorem op_notIn_seq:OpR X (compareOp .NotIn) (rIn X.K true):=by
  intro pins s σ H x y v u Q I rx ry h
  obtain ⟨p,xs,rfl,hq,fx,fs,q⟩:=h
  cases ry
  rcases hq with hq | hq
  · obtain ⟨its,r,pl,hz⟩:=I.list hq
    refine SeqAt.notIn_listAt (eqU x) pl.isList (fun w hw=>mem_eqAt rx fx r fs w (by simpa using hw)) ⟨.bl _,H,I,rfl,?_⟩
    rw [show its.toArray.any (eqU x)=its.any (eqU x) by simp,any_eqU r fs]
    exact q
  · obtain ⟨its,r,pl,hz⟩:=I.tuple hq
    refine SeqAt.notIn_tupleAt (eqU x) pl (fun w hw=>mem_eqAt rx fx r fs w (by simpa using hw)) ⟨.bl _,H,I,rfl,?_⟩
    rw [show its.toArray.any (eqU x)=its.any (eqU x) by simp,any_eqU r fs]
    exact q
theorem call_len_seq:CallR X (.builtin "len") (fun xs H Q=>∃ p ys,xs=[.ref p]∧(SqL X.K H p ys∨SqT X.K H p ys)∧Q (.int ys.length) H):=by
  intro pins s σ H xs us Q I r h
  obtain ⟨p,ys,rfl,hq,q⟩:=h
  obtain ⟨u,rfl,rx⟩:=vals1 r
  cases rx
  have hn:=line63
  rcases hq with hq | hq
  · obtain ⟨its,r',pl,hz⟩:=I.list hq
    have hlen:=r'.length
    exact Calls.call_len_list pl.isList (by simp only [List.size_toArray]<;>omega) ⟨.int ys.length,H,I.tok _,⟨s.toks+1,by rw [List.size_toArray,hlen]⟩,q⟩
  · obtain ⟨its,r',pl,hz⟩:=I.tuple hq
    have hlen:=r'.length
    exact len_tuple pl (by simp only [List.size_toArray]<;>omega) ⟨.int ys.length,H,I.tok _,⟨s.toks+1,by rw [List.size_toArray,hlen]⟩,q⟩
theorem call_list_of:CallR X (.type "list") (fun xs H Q=>∃ p ys,xs=[.ref p]∧(SqL X.K H p ys∨SqT X.K H p ys)∧∀ l,H l=none→Q (.ref l) (upd H l (.lst ys))):=by
  intro pins s σ H xs us Q I r h
  obtain ⟨p,ys,rfl,hq,q⟩:=h
  obtain ⟨u,rfl,rx⟩:=vals1 r
  cases rx
  have fin:∀ (its:List Value),Vals ys its→ys.length≤sizeLine→∀ (h':Heap) (c':Nat),(∀ b o',s.heap.get? b=some o'→h'.get? b=some o') →
      h'.get? s.heap.objs.size=some { cls:=.type "list",dict:=none,data:=.seq its.toArray c',slots:=#[] }→EP X pins σ Q (.ref s.heap.objs.size) { s with heap:=h' }:=fun its r' hz h' c' kp e =>
    ⟨.ref s.heap.objs.size,_,I.laid (t':=s.toks) kp (Nat.le_refl _) (show ObjOk X.prog X.w _ h' _ (.lst ys) from ⟨hz,its,c',r',e⟩),rfl,q _ (I.hok.fresh (Nat.le_refl _))⟩
  rcases hq with hq | hq
  · obtain ⟨its,r',pl,hz⟩:=I.list hq
    have hlen:=r'.length
    obtain ⟨o,ho,hc,n,hd⟩:=pl.isList
    exact call_list_seq p (.inl rfl) ho hc hd (fun h' c' kp e=>fin its r' hz h' c' kp e) (by simp only [List.size_toArray]<;>omega)
  · obtain ⟨its,r',pl,hz⟩:=I.tuple hq
    have hlen:=r'.length
    obtain ⟨o,ho,hc,n,hd⟩:=pl
    exact call_list_seq p (.inr rfl) ho hc hd (fun h' c' kp e=>fin its r' hz h' c' kp e) (by simp only [List.size_toArray]<;>omega)
def tyV (K:PySem.W.Frag)(T:String)(x:V)(H:Hp):Prop:=match x with
  | .str _=>T="str"
  | .int _=>T="int"
  | .ref p=>(T="list"∧∃ xs,SqL K H p xs)∨(T="tuple"∧∃ o,K.lookup p=some o∧o.cls=.type "tuple"∧o.dict=none) ∨
      (T="dict"∧((∃ kvs,H p=some (.dK kvs))∨∃ kvs,H p=some (.dT kvs)))∨(T="set"∧∃ S n,H p=some (.set S n))
  | _=>False
theorem tyV_is {pins:List (Addr × Obj)} {σ:St} {H:Hp} {s:Shared} {T:String} {x:V} {v:Value} (I:Inv X pins σ H s) (r:RelV x v) (ty:tyV X.K T x H) :
    s.TypeIs v T∧∀ a,v=.ref a→∃ ob,s.heap.get? a=some ob∧ob.dict=none:=by
  cases x with
  | str z =>
    obtain ⟨t,rfl⟩:=r
    cases (show T="str" from ty)
    exact ⟨typeIs_str s z t,fun _ e=>nomatch e⟩
  | int i =>
    obtain ⟨t,rfl⟩:=r
    cases (show T="int" from ty)
    exact ⟨typeIs_int s i t,fun _ e=>nomatch e⟩
  | ref p =>
    cases r
    rcases ty with ⟨rfl,xs,hq⟩ | ⟨rfl,o,hk,hc,hd⟩ | ⟨rfl,hk⟩ | ⟨rfl,S,n,hk⟩
    · obtain ⟨its,_,pl,_⟩:=I.list hq
      refine ⟨pl.isList.typeIs,fun a e=>?_⟩
      cases e
      obtain ⟨o,n,e,c,hd,_⟩:=pl
      exact ⟨o,e,hd⟩
    · refine ⟨⟨o,I.kIn p o hk,hc⟩,fun a e=>?_⟩
      cases e
      exact ⟨o,I.kIn _ o hk,hd⟩
    · have z:∃ o,s.heap.get? p=some o∧o.ExactDict:=by
        rcases hk with ⟨kvs,hk⟩ | ⟨kvs,hk⟩
        · obtain ⟨_,_,_,_,o,_,_,e,ex,_⟩:=I.hok p _ hk
          exact ⟨o,e,ex⟩
        · obtain ⟨_,_,_,_,o,_,_,e,ex,_⟩:=I.hok p _ hk
          exact ⟨o,e,ex⟩
      obtain ⟨o,e,ex⟩:=z
      refine ⟨⟨o,e,ex.1⟩,fun a e2=>?_⟩
      cases e2
      exact ⟨o,e,ex.2.1⟩
    · obtain ⟨o,_,_,_,e,ex,_⟩:=I.hok p _ hk
      refine ⟨⟨o,e,ex.1⟩,fun a e2=>?_⟩
      cases e2
      exact ⟨o,e,ex.2.1⟩
  | _=>exact False.elim ty
def tBM (K:PySem.W.Frag)(T:String)(r:V→List V→Hp→VK→Prop)(to:TE)(t:TA):TE:=fun σ H Q=>to σ H fun x H1=>tyV K T x H1∧t σ H1 fun xs H2=>r x xs H2 Q
variable {o e:Expr}{es:List Expr}{to:TE}{t:TA}{name:Str}{apos cpos:Pos}{T id:String}{r:V→List V→Hp→VK→Prop}
theorem pe_bm (pa:PlainAttrs T)(slot:Slot T name id)(hty:typeOf (.builtin id)=pure (.type "method_descriptor"))(hm:MtR X id r)(ho:PE X o to)(ha:PA X (e::es) t)
    (hbase:attributeBase o name X.env (eval o X.env)=eval o X.env:=by rfl)
    (hfew:((backTo cpos (starEach (e::es) X.env)).all (fun x=>!x.1)&&(backToKw cpos (keywordEach [] X.env)).all (fun x=>x.1.isSome)
      && decide ((e::es).length+([]:List Keyword).length+(if ([]:List Keyword).isEmpty then 0 else 1)<30))=true:=by rfl)
    (hline:(apos.endLine==cpos.line)=true:=by rfl) (hs:starEach (e::es) X.env=(false,eval e X.env)::starEach es X.env:=by rfl) (hplain:(backTo cpos (starEach es X.env)).any (·.1)=false:=by rfl) :
    PE X (.Call (.Attribute o name apos) (e::es) [] cpos) (tBM X.K T r to t):=by
  intro pins s σ H Q I h
  refine wpAny_Call_method_late hbase hfew hline rfl (thn (ho pins s σ H _ I h) fun v s1 ⟨x,H1,I1,r1,ty,q1⟩=>?_)
  obtain ⟨h1,h2⟩:=tyV_is I1 r1 ty
  refine ⟨T,id,pa,slot,hty,h1,h2,?_⟩
  have hA:=ha cpos pins s1 σ H1 _ I1 q1
  rw [hs] at hA ⊢
  refine Calls.callWith_builtin (by show (false||(backTo cpos (starEach es X.env)).any (·.1))=false;rw [hplain]<;>rfl) (Calls.evalArgs_plain ?_)
  exact thn hA fun us s2 ⟨vs,H2,I2,r2,q2⟩=>hm pins s2 σ H2 x vs v us Q I2 r1 r2 q2
end
end L2
namespace L2
open PySem PySem.Spec PyProof.Rows
def MtM (X:Cx) (id:String) (r:V→List V→Hp→VK→Prop):Prop :=
  ∀ (pins:List (Addr × Obj)) (s:Shared) (σ:St) (H:Hp) (x:V) (xs:List V) (v:Value) (us:List Value) (Q:VK),Inv X pins σ H s→RelV x v→Vals xs us→r x xs H Q →
    wpAny (model X.prog X.w) X.A (call (.builtin id) (v::us)) (EP X pins σ Q) X.xe s
theorem Vals.one:∀ {x:V} {us:List Value},Vals [x] us→∃ u,us=[u]∧RelV x u
  | _,_,.cons r .nil=>⟨_,rfl,r⟩
theorem Vals.two:∀ {x y:V} {us:List Value},Vals [x,y] us→∃ u v,us=[u,v]∧RelV x u∧RelV y v:=by
  intro x y us h
  cases h with
  | cons r t =>
    cases t with
    | cons q t2 =>
      cases t2
      exact ⟨_,_,rfl,r,q⟩
section
variable {X:Cx}{pins:List (Addr × Obj)}{σ:St}{H:Hp}{s:Shared}{l b:Addr}{xs ys zs:List V}
theorem Inv.lset {its its':List Value}{n:Nat}{f:Array Value→Array Value}{t':Nat}(I:Inv X pins σ H s)(hH:H l=some (.lst xs))
    (e:s.heap.get? l=some { cls:=.type "list",data:=.seq its.toArray n }) (hf:f its.toArray=its'.toArray) (hv:Vals ys its') (hz:ys.length≤sizeLine) :
    Inv X pins σ (upd H l (.lst ys)) { s with heap:=s.heap.update l (Obj.mapSeq f),toks:=t' }:=by
  have q:=PySem.IsL.update e f
  rw [hf] at q
  refine I.write (x:=l) (e:=l) (by rw [hH];exact trivial) (.inl rfl) (fun b' u hb hu=>(Heap.get?_update_other s.heap (Obj.mapSeq f) (Ne.symm hb)).trans hu) ⟨_,q⟩ ?_
  exact ⟨hz,its',_,hv,q⟩
theorem Inv.lnew {its:List Value}{t':Nat}(I:Inv X pins σ H s)(hv:Vals ys its)(hz:ys.length≤sizeLine) :
    Inv X pins σ (upd H s.heap.objs.size (.lst ys)) { s with heap:=s.heap.push { cls:=.type "list",data:=.seq its.toArray },toks:=t' } :=
  I.laid (fun _ _ q=>Heap.get?_push_of_some _ q) (Nat.le_refl _) ⟨hz,its,0,hv,Heap.get?_push_size _ rfl⟩
theorem Inv.fresh (I:Inv X pins σ H s):H s.heap.objs.size=none:=I.hok.fresh (Nat.le_refl _)
theorem Inv.lstM (I:Inv X pins σ H s)(hH:H l=some (.lst xs)):xs.length≤sizeLine∧∃ (its:List Value) (n:Nat),Vals xs its∧xs.length=its.length∧s.heap.get? l=some { cls:=.type "list",data:=.seq its.toArray n }:=by
  obtain ⟨z,its,n,r,e⟩:=I.hok l _ hH
  exact ⟨z,its,n,r,r.length,e⟩
theorem notLongL {n:Nat}(h:n≤sizeLine):Builtin.List.listTooLong n=false:=by
  unfold Builtin.List.listTooLong
  exact decide_eq_false (by omega)
end
section
variable {X:Cx}
def rAppend:V→List V→Hp→VK→Prop:=fun x vs H Q=>∃ l xs y,x=.ref l∧vs=[y]∧H l=some (.lst xs)∧xs.length<sizeLine∧Q .non (upd H l (.lst (xs++[y])))
theorem mt_append:MtM X "list.append" rAppend:=by
  intro pins s σ H x vs v us Q I rx rv h
  obtain ⟨l,xs,y,rfl,rfl,hH,hz,q⟩:=h
  cases rx
  obtain ⟨u,rfl,ru⟩:=rv.one
  obtain ⟨z,its,n,r,hl,e⟩:=I.lstM hH
  refine call_meets F.slot_list_append ⟨_,e,rfl⟩ F.entry_list_append (F.args_list_append_2 _ _) (PySem.list_append l its.toArray n u (by rw [List.size_toArray];omega)) ⟨e,?_⟩
  refine ⟨.non,_,I.lset (its':=its++[u]) hH e (by simp) (r.append (.cons ru .nil)) ?_,rfl,q⟩
  rw [List.length_append,List.length_singleton]
  omega
def rExtend:V→List V→Hp→VK→Prop:=fun x vs H Q=>∃ l b xs zs,x=.ref l∧vs=[.ref b]∧H l=some (.lst xs)∧H b=some (.lst zs)∧xs.length+zs.length≤sizeLine∧Q .non (upd H l (.lst (xs++zs)))
theorem mt_extend:MtM X "list.extend" rExtend:=by
  intro pins s σ H x vs v us Q I rx rv h
  obtain ⟨l,b,xs,zs,rfl,rfl,hH,hB,hz,q⟩:=h
  cases rx
  obtain ⟨u,rfl,ru⟩:=rv.one
  cases ru
  obtain ⟨z,its,n,r,hl,e⟩:=I.lstM hH
  obtain ⟨z2,its2,n2,r2,hl2,e2⟩:=I.lstM hB
  have hsz:its.toArray.size+its2.toArray.size≤sizeLine:=by rw [List.size_toArray,List.size_toArray];omega
  have hlong:¬ (!its.toArray.isEmpty&&Builtin.List.listTooLong (its.toArray.size+its2.toArray.size))=true:=by
    rw [notLongL hsz,Bool.and_false]
    exact Bool.false_ne_true
  refine call_meets F.slot_list_extend ⟨_,e,rfl⟩ F.entry_list_extend (F.args_list_extend_2 _ _)
    (AutoSeq1.list_extend_list_list_0 l its.toArray n b its2.toArray n2 hlong (by rw [List.size_toArray];omega) (by omega)) ⟨e,e2,?_⟩
  refine ⟨.non,_,I.lset (its':=its++its2) hH e (by simp) (r.append r2) ?_,rfl,q⟩
  rw [List.length_append]
  omega
def rCat:R2:=fun x y H Q=>∃ l b xs zs,x=.ref l∧y=.ref b∧H l=some (.lst xs)∧H b=some (.lst zs)∧xs.length+zs.length≤sizeLine∧∀ p,H p=none→Q (.ref p) (upd H p (.lst (xs++zs)))
theorem op_cat:OpR X (binaryOp .Add) rCat:=by
  intro pins s σ H x y v u Q I rx ry h
  obtain ⟨l,b,xs,zs,rfl,rfl,hH,hB,hz,q⟩:=h
  cases rx
  cases ry
  obtain ⟨z,its,n,r,hl,e⟩:=I.lstM hH
  obtain ⟨z2,its2,n2,r2,hl2,e2⟩:=I.lstM hB
  refine PySem.P.add_list e e2 ?_ (by rw [List.size_toArray,List.size_toArray];omega)
  have ea:its.toArray++its2.toArray=(its++its2).toArray:=by simp
  rw [ea]
  exact ⟨.ref _,_,I.lnew (t':=s.toks) (r.append r2) (by rw [List.length_append];omega),rfl,q _ I.fresh⟩
end
section
variable {prog:Program}{w:World}{A:Around}{E:Value→Shared→Prop}{s:Shared}
set_option maxRecDepth 100000 in
end
section
variable {X:Cx}
end
end L2
namespace Att
open PySem PySem.W PySem.Calls PyProof.Rows
theorem ints_of_wellAll {P:Params}{h:Heap}:∀ (ns:List Int) (vs:List Value),WellAll P h vs (ns.map WData.int)→IntsAre vs ns:=by
  intro ns
  induction ns with
  | nil =>
    intro vs w
    rw [List.map_nil] at w
    cases w
    exact .nil
  | cons n ns ih =>
    intro vs w
    rw [List.map_cons] at w
    cases w with
    | cons a b =>
      cases a
      exact .cons _ _ (ih _ b)
theorem script_of {l:OpenLaw}{n:Nat}(hn:l.most=some n){P:Params}{h:Heap}{args:List WData}{vals:List Value}
    (hpre:l.row.toRowW.claim.pre args=true) (hwl:WellAll P h vals args) :
    ∃ a vs ns,vals=[Value.ref a]∧args=[WData.list (ns.map WData.int)]∧h.get? a=some { cls:=.type "list",data:=.seq vs.toArray }∧IntsAre vs ns∧ns.length≤n:=by
  have hsh:WShape.hasAll [] args [.list .int]=true:=(pre_splitW hpre).1
  have hc:l.pre.holds [] { args:=args }=true:=(pre_splitW hpre).2
  obtain ⟨d,r,rfl,h1,h2⟩:=hasAllW_cons hsh
  obtain rfl:=hasAllW_nil h2
  obtain ⟨xs,rfl,h3⟩:=hasW_list h1
  obtain ⟨ns,rfl⟩:=items_int h3
  have hlen:ns.length≤n:=by
    unfold OpenLaw.pre at hc
    have h4:(WTm.not (.lt (.lit (.int (n:Int))) (.len (.arg 0)))).holds [] { args:=[.list (ns.map .int)] }=true:=by
      have h4:=(holds_andW hc).1
      rw [hn] at h4
      exact h4
    have h5:=condW_of h4 (w_not (w_lt w_lit (w_len_list (w_arg rfl))))
    rw [List.length_map] at h5
    refine Nat.le_of_not_lt fun q=>?_
    have q':(n:Int)<((ns.length:Nat):Int):=by omega
    first
      | (rw [decide_eq_true q'] at h5;exact absurd h5 (by decide))
      | (simp at h5;omega)
  cases hwl with
  | cons w1 w2 =>
    cases w2
    cases w1 with
    | list ho hall=>exact ⟨_,_,ns,rfl,rfl,ho,ints_of_wellAll ns _ hall,hlen⟩
theorem post_true (l:OpenLaw)(args:List WData):l.row.toRowW.claim.post args (.bool true) args=true :=
  postW_of (r:=l.row.toRowW) (X:=(true==true))
    (show WShape.has [] (.bool true) .bool=true by first | rfl | decide | simp [WShape.has,WShape.arms,WShape.armsAll])
    (show (WTm.eq .res (.lit (.bool true))).value [] { args:=args,res:=some (.bool true),after:=args }=some (.bool (true==true)) from w_eq_bool (w_res rfl) w_lit) rfl
theorem attach_call {l:OpenLaw}{n:Nat}{q:Program}{loose:List Str}{XP:(Str→Option Value)→Heap→Prop}{YP:World→Heap→Prop}{d:DefRec}
    (hn:l.most=some n) (hdf:d.params.defaults=[])
    (call:∀ (w:World) (s₀ s₁:Shared) (mg mb:Str→Option Value) (fa:Addr) (o:Obj) (pm cd doc:Value) (a:Addr) (vs:List Value) (ns:List Int),
      Ground q loose [] XP w s₀ mg mb s₁.heap→YP w s₁.heap →
      s₁.heap.get? fa=some o→o.data=.func (docDef d.name d.params d.body d.scope pm cd doc)→s₁.heap.CodeRec cd d.name→mg d.name=some (.ref fa) →
      s₁.heap.get? a=some { cls:=.type "list",data:=.seq vs.toArray }→IntsAre vs ns→ns.length≤n→s₁.gens=#[] →
      codeAny (model l.prog w) callerA (.call (.ref fa) ⟨[.ref a],[]⟩) (fun r s'=>r=.ok (.ret (.bool true))∧OldK s₁.heap s'.heap∧s'.os=s₁.os∧AllBare s'.gens) s₁) :
    WalkO q loose XP YP l.row.toRowW d [] (fun f vs=>PySem.call f vs):=by
  intro w s₀ s₁ mg mb G Y fa o pm cd doc dV kV ho hd hcd hD hmg hg args vals as hpre hlay hrd hwl hlo
  obtain rfl:dV=.none:=Dflts.none hD hdf
  obtain rfl:kV=.none:=Dflts.noKw hD
  obtain ⟨a,vs,ns,rfl,rfl,hobj,hints,hlen⟩:=script_of hn hpre hwl
  refine enter_call (codeAny_mono (call w s₀ s₁ mg mb fa o pm cd doc a vs ns G Y ho (fd_plain hd) hcd hmg hobj hints hlen hg) fun r s' hq=>?_)
  obtain ⟨rfl,h2,h3,h4⟩:=hq
  exact ⟨.inl ⟨.bool true,.bool true,[],rfl,fun _=>rfl,.bool true,post_true l _,fun _=>⟨List.Pairwise.nil,fun _ hm=>(nomatch hm)⟩⟩,h2,h3,h4⟩
section
variable {prog:Program}{w:World}{A:Around}{E:Value→Shared→Prop}{s:Shared}{K:Frag}
end
end Att
namespace L2
open PySem PySem.Spec PyProof.Rows
theorem vals_ints:∀ {vs:List Value} {ns:List Int},IntsAre vs ns→Vals (ns.map V.int) vs
  | _,_,.nil=>.nil
  | _,_,.cons n t h=>.cons ⟨t,rfl⟩ (vals_ints h)
def Only (H:Hp):Prop:=∀ b,H b=none∨∃ o xs,H b=some (.frz o (.lst xs))
theorem law_call {P:Program} {w:World} {K:PySem.W.Frag} {mg mb:Str→Option Value} {CX:CXT} {k:Nat} {fa a:Addr} {fd:FuncData} {x:Str} {sp:Sp} {s₁:Shared} {vs:List Value} {ns:List Int}
    (KX:K.In s₁.heap) (hns:s₁.heap.Ns mainGlobals mg) (hb:s₁.heap.Ns builtinsNs mb) (hbb:∀ x:Str,x≠"__name__"→mb x=bootBuiltins x) (hlim:s₁.heap.NoLimit) (hg:s₁.gens=#[])
    (ha:s₁.heap.get? a=some { cls:=.type "list",data:=.seq vs.toArray }) (hi:IntsAre vs ns) (hl:ns.length≤sizeLine) (hr:Room k callerA)
    (F:∀ base:Heap,K.In base→base.Ns mainGlobals mg→FnOk P w K mg base CX k fa fd [x] sp) (hbind:∀ (s:Shared) (u:Value),BindsTo s fd ⟨[u],[]⟩ [(x,u)])
    (hsp:∀ H:Hp,Only H→SqL K H a (ns.map V.int)→sp [.ref a] H (fun v _=>v=.bl true) fun _ _ _=>False)
    (hCX:∀ H e s',CX [] H s₁ (fun _ _ _=>False) e s'→False) :
    codeAny (model P w) callerA (.call (.ref fa) ⟨[.ref a],[]⟩) (fun r s'=>r=.ok (.ret (.bool true))∧OldK s₁.heap s'.heap∧s'.os=s₁.os∧AllBare s'.gens) s₁:=by
  have rv:=vals_ints hi
  have lenV:=hi.length
  have core : ∀ H:Hp,Only H→SqL K H a (ns.map V.int)→HOk P w H s₁.heap→(∀ b,H b≠none→b=a)→(H a≠none→K.lookup a=none) →
      codeAny (model P w) callerA (.call (.ref fa) ⟨[.ref a],[]⟩) (fun r s'=>r=.ok (.ret (.bool true))∧OldK s₁.heap s'.heap∧s'.os=s₁.os∧AllBare s'.gens) s₁:=by
    intro H hO hS hok hA hK
    have base_of:∀ {b:Addr} {o:Obj},s₁.heap.get? b=some o→H b=none→(hidT s₁.heap H).get? b=some o:=fun e n=>hidT_get e n
    have noA:∀ {b:Addr} {o:Obj} {es:Array DictEntry} {ep:Nat},s₁.heap.get? b=some o→o.data=.dict es ep→H b=none:=fun {b o es ep} e d=>by
      cases q:H b with
      | none=>rfl
      | some u =>
        have e':b=a:=hA b (by rw [q];simp)
        subst e'
        rw [ha] at e;cases e
        have d':Data.seq vs.toArray _=Data.dict es ep:=d
        cases d'
    have nsK:∀ {b:Addr} {m:Str→Option Value},s₁.heap.Ns b m→(hidT s₁.heap H).Ns b m:=fun {b m} ⟨o,es,ep,e,d,r⟩=>⟨o,es,ep,base_of e (noA e d),d,r⟩
    have hKb:K.In (hidT s₁.heap H):=fun b o e=>base_of (KX b o e) (by
      cases q:H b with
      | none=>rfl
      | some u =>
        have e':b=a:=hA b (by rw [q];simp)
        subst e'
        rw [hK (by rw [q];simp)] at e;cases e)
    have hM:Mod K mg (hidT s₁.heap H):=⟨hKb,nsK hns,⟨mb,nsK hb,hbb⟩,let ⟨mc,h1,h2⟩:=hlim;⟨mc,nsK h1,h2⟩⟩
    have e0:Env0 P w K mg (hidT s₁.heap H) callerA [] s₁ H:=⟨rfl,hM,fun b o e=>of_hidT e,Nat.le_of_eq (hidT_size _ _),trivial,fun b hb=>absurd (show b∈([]:List Addr) from hb) (by simp),hok,.of_eq hg⟩
    refine codeAny_mono ((F _ hKb (nsK hns)).run callerA [] s₁ H ⟨[.ref a],[]⟩ [.ref a] [.ref a] _ _ hr e0 (hbind s₁ (.ref a)) (.cons rfl .nil) (hsp H hO hS)) fun r s' h=>?_
    cases r with
    | error e=>exact (hCX H e s' h).elim
    | ok fl =>
      cases fl with
      | next=>exact False.elim h
      | brk=>exact False.elim h
      | cont=>exact False.elim h
      | ret u =>
        obtain ⟨v,H',os,bare,un,hok',r',q⟩:=h
        have q':v=.bl true:=q
        subst q'
        obtain rfl:u=Value.bool true:=r'
        refine ⟨rfl,OldK.of_keep fun b o e=>?_,os,bare⟩
        cases q:H b with
        | none=>exact un.keep b o e q (by intro z;exact absurd (show b∈([]:List Addr) from z) (by simp)) (by simp)
        | some u =>
          rcases hO b with z | ⟨ob,xs,z⟩
          · rw [q] at z;cases z
          · have z2:=un.frzs b ob _ z
            obtain ⟨e1,_⟩:=hok b _ z
            obtain ⟨e2,_⟩:=hok' b _ z2
            rw [e] at e1;cases e1
            exact e2
  cases hk:K.lookup a with
  | some o =>
    have e:=KX a o hk
    rw [ha] at e
    cases e
    refine core (fun _=>none) (fun _=>.inl rfl) (.inr ⟨_,vs.toArray,_,hk,rfl,rfl,rfl,by rw [List.size_toArray,lenV];exact hl,by simpa using rv⟩) (fun b u z=>by have z':(none:Option HO)=some u:=z;cases z') (fun b z=>absurd rfl z) fun z=>absurd rfl z
  | none =>
    refine core (fun b=>if b=a then some (.frz { cls:=.type "list",data:=.seq vs.toArray } (.lst (ns.map V.int))) else none) (fun b=>?_) (.inl (.inr ⟨{ cls:=.type "list",data:=.seq vs.toArray },if_pos rfl⟩)) (fun b u z=>?_) (fun b z=>?_) fun _=>hk
    · by_cases hb:b=a
      · exact .inr ⟨_,_,if_pos hb⟩
      · exact .inl (if_neg hb)
    · by_cases hb:b=a
      · have z':=(if_pos hb).symm.trans z
        cases z'
        subst hb
        exact ⟨ha,by rw [List.length_map];exact hl,vs,_,rv,ha⟩
      · have z':=(if_neg hb).symm.trans z
        cases z'
    · by_cases hb:b=a
      · exact hb
      · exact absurd (if_neg hb) z
end L2
namespace L2
open PySem PySem.Spec PyProof.Rows
abbrev KOf {K:PySem.W.Frag}{h:Heap}(_:K.In h):PySem.W.Frag:=K
theorem walk_of {l:PySem.W.OpenLaw} {n k:Nat} {q:Program} {loose:List Str} {XP:(Str→Option Value)→Heap→Prop} {YP:World→Heap→Prop} {d:DefRec} {K:Params→PySem.W.Frag} {CX:World→CXT} {sp:World→Sp} {x:Str}
    (hn:l.most=some n) (hn2:n≤sizeLine) (hdf:d.params.defaults=[]) (hr:Room k callerA)
    (hY:∀ (w:World) (h:Heap),YP w h→(K w.params).In h)
    (F:∀ (w:World) (mg:Str→Option Value) (fa:Addr) (h:Heap),(K w.params).In h→h.Ns mainGlobals mg→mg d.name=some (.ref fa) →
      ∃ fd:FuncData,(∀ (s:Shared) (u:Value),BindsTo s fd ⟨[u],[]⟩ [(x,u)]) ∧
        ∀ base:Heap,(K w.params).In base→base.Ns mainGlobals mg→FnOk l.prog w (K w.params) mg base (CX w) k fa fd [x] (sp w))
    (hsp:∀ (w:World) (H:Hp) (a:Addr) (ns:List Int),ns.length≤n→Only H→SqL (K w.params) H a (ns.map V.int)→sp w [.ref a] H (fun v _=>v=.bl true) fun _ _ _=>False)
    (hCX:∀ (w:World) (H:Hp) (s:Shared) (e:Value) (s':Shared),CX w [] H s (fun _ _ _=>False) e s'→False) :
    PySem.W.WalkO q loose XP YP l.row.toRowW d [] (fun f vs=>PySem.call f vs):=by
  refine Att.attach_call hn hdf fun w s₀ s₁ mg mb fa o pm cd doc a vs ns G Y ho hd hcd hmg hobj hints hlen hg=>?_
  have KX:=hY w _ Y
  obtain ⟨fd,hb,hF⟩:=F w mg fa _ KX G.T.g hmg
  exact law_call KX G.T.g G.T.b G.T.builtins G.T.nolimit hg hobj hints (Nat.le_trans hlen hn2) hr hF hb (fun H hO hS=>hsp w H a ns hlen hO hS) fun H e s'=>hCX w H s₁ e s'
end L2
namespace L2
open PySem PySem.Spec PyProof.Rows
def inClass (s:Stmt)(j:Nat):Stmt:=match s with
  | .ClassDef _ _ _ body _ _ _ _ _ _ _=>body.getD j (.Pass ⟨0,0,0,0⟩)
  | _=>.Pass ⟨0,0,0,0⟩
def defArgs (s:Stmt):Arguments:=match s with
  | .FunctionDef _ a _ _ _ _ _ _ _ _=>a
  | _=>{ posonlyargs:=[],args:=[],vararg:=none,kwonlyargs:=[],kw_defaults:=[],kwarg:=none,defaults:=[] }
def defBody (s:Stmt):List Stmt:=match s with
  | .FunctionDef _ _ b _ _ _ _ _ _ _=>b
  | _=>[]
def defScope (s:Stmt):Scope:=match s with
  | .FunctionDef _ _ _ _ _ _ sc _ _ _=>sc
  | _=>{ kind:=.function,names:=[],isGenerator:=false,isCoroutine:=false }
abbrev CX0:CXT:=fun _ _ _ _ _ _=>False
abbrev E0:XK:=fun _ _ _=>False
theorem pass0 {X:Cx}:Passes CX0 X E0:=fun _ _ _ _ _ _ _ h=>h.elim
structure Fun (K:PySem.W.Frag)(x qual:Str)(st:Stmt)(f:Addr)(fd:FuncData):Prop where
  ex:∃ (oc:Value) (od:Option Addr) (kV doc pm:Value) (an:Option Addr) (cdv ct:Value) (osl:Array (Option Value)),
    fd=PySem.W.fnOf x qual (defArgs st) (defBody st) (defScope st) .none kV doc pm an cdv ct∧K.lookup f=some ⟨oc,od,.func fd,osl⟩∧PySem.W.codeIn K cdv qual=true
  kp:PySem.W.keepIn K (.ref f)=true
section
variable {P:Program}{w:World}{K:PySem.W.Frag}{mg:Str→Option Value}{base:Heap}
theorem Fun.ok {x qual:Str}{st:Stmt}{f:Addr}{fd:FuncData}{N ps:List Str}{k:Nat}{sp:Sp}(F:Fun K x qual st f fd)(S:FnScope N ps (defScope st))(len:∀ vs H Q E,sp vs H Q E→vs.length=ps.length)
    (hbody:∀ (cdv:Value) (A:Around) (outer:List Env) (s:Shared) (H:Hp) (vs:List V) (Q:VK) (E:XK),Room k (A.deeper (envOfC qual (defScope st) s.heap.objs.size f cdv))→sp vs H Q E →
      ∃ t,PSs (cxOf CX0 P w K mg base N qual (defScope st) f cdv A outer s H E).nox (defBody st) t∧t { nx:=fun _ H'=>Q .non H',rt:=Q } (start N vs) H):FnOk P w K mg base CX0 (k+1) f fd ps sp:=by
  obtain ⟨oc,od,kV,doc,pm,an,cdv,ct,osl,rfl,lk,hcd⟩:=F.ex
  refine fn_of lk hcd S len fun A outer s H vs Q E hr hsp=>?_
  obtain ⟨t,h,q⟩:=hbody cdv A outer s H vs Q E hr hsp
  exact ⟨t,h.nox,q⟩
theorem Fun.binds {x qual:Str}{st:Stmt}{f:Addr}{fd:FuncData}{ps:List Str}(F:Fun K x qual st f fd)
    (h:∀ (kV doc pm:Value) (an:Option Addr) (cdv ct:Value) (us:List Value),us.length=ps.length→bindArgs (PySem.W.fnOf x qual (defArgs st) (defBody st) (defScope st) .none kV doc pm an cdv ct) ⟨us,[]⟩=pure (ps.zip us)):Binds K fd ps []:=by
  obtain ⟨oc,od,kV,doc,pm,an,cdv,ct,osl,rfl,lk,hcd⟩:=F.ex
  exact .all (h kV doc pm an cdv ct)
theorem fun_mk {x qual:Str}{st:Stmt}{f:Addr}{oc:Value}{od an:Option Addr}{osl:Array (Option Value)}{kV doc pm cdv ct:Value}(l:K.lookup f=some ⟨oc,od,.func (PySem.W.fnOf x qual (defArgs st) (defBody st) (defScope st) .none kV doc pm an cdv ct),osl⟩)
    (c:PySem.W.codeIn K cdv qual=true) (k:PySem.W.keepIn K (.ref f)=true):Fun K x qual st f (PySem.W.fnOf x qual (defArgs st) (defBody st) (defScope st) .none kV doc pm an cdv ct):=⟨⟨oc,od,kV,doc,pm,an,cdv,ct,osl,rfl,l,c⟩,k⟩
end
section
variable {X:Cx}
theorem pv (i:Nat){x:Str}{pos:Pos}(hN:X.N[i]?=some x:=by rfl)(hv:Vis X.env.scope x:=by first | exact Or.inl rfl | exact Or.inr (Or.inl rfl) | exact Or.inr (Or.inr rfl))(hd:(x==("__debug__":Str))=false:=by decide)
    (hcd:(x==("__classdict__":Str))=false:=by decide):PE X (.Name x pos) (tVar i):=pe_var hN hv hd hcd
end
def Same (H H':Hp):Prop:=∀ b o,H b=some o→H' b=some o
theorem Same.refl (H:Hp):Same H H:=fun _ _ h=>h
theorem Same.trans {H H1 H2:Hp}(a:Same H H1)(b:Same H1 H2):Same H H2:=fun c o h=>b c o (a c o h)
theorem Same.free {H H':Hp}(e:Same H H'){l:Addr}(h:H' l=Option.none):H l=Option.none:=by
  cases q:H l with
  | none=>rfl
  | some o =>
    rw [e l o q] at h
    cases h
theorem Same.seq {K:PySem.W.Frag}{H H':Hp}{a:Addr}{xs:List V}(e:Same H H')(h:SqL K H a xs):SqL K H' a xs:=by
  rcases h with (h | ⟨o,h⟩) | h
  · exact .inl (.inl (e _ _ h))
  · exact .inl (.inr ⟨o,e _ _ h⟩)
  · exact .inr h
end L2
namespace L2
open PySem PySem.Spec PyProof.Rows
section
variable {κ:Type}[DecidableEq κ]
def valV (kvs:List (κ × V))(k:κ):Option V:=(kvs.find? fun kv=>decide (kv.1=k)).map (·.2)
def putK (kvs:List (κ × V))(k:κ)(v:V):List (κ × V) :=
  if (kvs.any fun kv=>decide (kv.1=k))=true then kvs.map (fun kv=>if kv.1=k then (kv.1,v) else kv) else kvs++[(k,v)]
def dropK (kvs:List (κ × V))(k:κ):List (κ × V):=kvs.filter fun kv=>decide (kv.1≠k)
theorem valV_pos {p:κ × V}{r:List (κ × V)}{k:κ}(e:p.1=k):valV (p::r) k=some p.2:=by simp [valV,List.find?_cons,e]
theorem valV_neg {p:κ × V}{r:List (κ × V)}{k:κ}(e:¬ p.1=k):valV (p::r) k=valV r k:=by simp [valV,List.find?_cons,e]
theorem valV_any (k:κ):∀ kvs:List (κ × V),(kvs.any fun kv=>decide (kv.1=k))=(valV kvs k).isSome
  | []=>rfl
  | p::r=>by
    rw [List.any_cons]
    by_cases e:p.1=k
    · simp only [valV_pos e,decide_eq_true e,Bool.true_or,Option.isSome_some]
    · rw [valV_neg e,decide_eq_false e,Bool.false_or];exact valV_any k r
theorem valV_map (k j:κ)(y:V):∀ kvs:List (κ × V),valV (kvs.map fun kv=>if kv.1=k then (kv.1,y) else kv) j=(valV kvs j).map fun x=>if j=k then y else x
  | []=>rfl
  | p :: r=>by
    have ih:=valV_map k j y r
    rw [List.map_cons]
    by_cases h:p.1=k
    · rw [if_pos h]
      by_cases e:p.1=j
      · rw [valV_pos (p:=(p.1,y)) e,valV_pos e,Option.map_some,if_pos (e.symm.trans h)]
      · rw [valV_neg (p:=(p.1,y)) e,valV_neg e,ih]
    · rw [if_neg h]
      by_cases e:p.1=j
      · rw [valV_pos (p:=p) e,valV_pos e,Option.map_some,if_neg (fun z=>h (e.trans z))]
      · rw [valV_neg (p:=p) e,valV_neg e,ih]
theorem valV_snoc (k j:κ)(y:V):∀ kvs:List (κ × V),valV kvs k=none→valV (kvs++[(k,y)]) j=if j=k then some y else valV kvs j
  | [],_=>by
    by_cases e:k=j
    · rw [if_pos e.symm];exact valV_pos (p:=(k,y)) e
    · rw [if_neg (fun z=>e z.symm)];exact valV_neg (p:=(k,y)) e
  | p::r,hn=>by
    rw [List.cons_append]
    have hk:¬ p.1=k:=fun z=>by rw [valV_pos z] at hn;cases hn
    rw [valV_neg hk] at hn
    have ih:=valV_snoc k j y r hn
    by_cases e:p.1=j
    · rw [valV_pos e,valV_pos e,if_neg (fun z=>hk (e.trans z))]
    · rw [valV_neg e,valV_neg e,ih]
theorem valV_put (kvs:List (κ × V))(k j:κ)(y:V):valV (putK kvs k y) j=if j=k then some y else valV kvs j:=by
  unfold putK
  by_cases a:(kvs.any fun kv=>decide (kv.1=k))=true
  · rw [if_pos a,valV_map]
    rw [valV_any] at a
    by_cases e:j=k
    · obtain ⟨x,hx⟩:=Option.isSome_iff_exists.mp a
      rw [if_pos e,e,hx,Option.map_some,if_pos rfl]
    · rw [if_neg e]
      cases valV kvs j with
      | none=>rfl
      | some x=>rw [Option.map_some,if_neg e]
  · rw [if_neg a]
    refine valV_snoc k j y kvs ?_
    rw [valV_any] at a
    cases q:valV kvs k with
    | none=>rfl
    | some x=>rw [q] at a;exact (a rfl).elim
theorem length_putK (kvs:List (κ × V))(k:κ)(v:V):(putK kvs k v).length≤kvs.length+1:=by
  unfold putK
  split
  · rw [List.length_map];omega
  · rw [List.length_append,List.length_cons,List.length_nil];omega
theorem RelO.isSome_eq {o:Option V}{u:Option Value}(r:RelO o u):o.isSome=u.isSome:=by
  cases o with
  | none=>cases u with
    | none=>rfl
    | some _=>exact (show False from r).elim
  | some _=>cases u with
    | none=>exact (show False from r).elim
    | some _=>rfl
theorem KV.val {kvs:List (κ × V)}{vs:List (κ × Value)}(r:KV kvs vs)(k:κ):RelO (valV kvs k) (valueAt vs k):=by
  unfold KV at r
  induction r with
  | nil=>exact True.intro
  | @cons p q ps qs h t ih =>
    obtain ⟨h1,h2⟩:=h
    by_cases e:p.1=k
    · have e':q.1=k:=h1.symm.trans e
      have b:valueAt (q::qs) k=some q.2:=by simp [valueAt,List.find?_cons,e']
      rw [valV_pos e,b];exact h2
    · have e':¬ q.1=k:=fun z=>e (h1.trans z)
      have b:valueAt (q::qs) k=valueAt qs k:=by simp [valueAt,List.find?_cons,e']
      rw [valV_neg e,b];exact ih
theorem KV.any {kvs:List (κ × V)}{vs:List (κ × Value)}(r:KV kvs vs)(k:κ):(kvs.any fun kv=>decide (kv.1=k))=vs.any fun kv=>decide (kv.1=k):=by
  unfold KV at r
  induction r with
  | nil=>rfl
  | cons h t ih=>rw [List.any_cons,List.any_cons,ih,h.1]
theorem KV.repl {kvs:List (κ × V)}{vs:List (κ × Value)}(r:KV kvs vs)(k:κ){y:V}{u:Value}(ry:RelV y u) :
    KV (kvs.map fun kv=>if kv.1=k then (kv.1,y) else kv) (vs.map fun kv=>if kv.1=k then (kv.1,u) else kv):=by
  unfold KV at r ⊢
  induction r with
  | nil=>exact .nil
  | @cons p q ps qs h t ih =>
    rw [List.map_cons,List.map_cons]
    refine .cons ?_ ih
    obtain ⟨h1,h2⟩:=h
    by_cases e:p.1=k
    · rw [if_pos e,if_pos (h1.symm.trans e)];exact ⟨h1,ry⟩
    · rw [if_neg e,if_neg (fun z=>e (h1.trans z))];exact ⟨h1,h2⟩
theorem KV.put {kvs:List (κ × V)}{vs:List (κ × Value)}(r:KV kvs vs)(k:κ){y:V}{u:Value}(ry:RelV y u):KV (putK kvs k y) (stored vs k u):=by
  unfold putK stored
  rw [r.any k]
  by_cases e:(vs.any fun kv=>decide (kv.1=k))=true
  · rw [if_pos e,if_pos e];exact r.repl k ry
  · rw [if_neg e,if_neg e];exact Paired.snoc r ⟨rfl,ry⟩
theorem KV.drop {kvs:List (κ × V)}{vs:List (κ × Value)}(r:KV kvs vs)(k:κ):KV (dropK kvs k) (without vs k):=by
  unfold KV at r ⊢
  unfold dropK without
  induction r with
  | nil=>exact .nil
  | @cons p q ps qs h t ih =>
    obtain ⟨h1,h2⟩:=h
    rw [List.filter_cons,List.filter_cons]
    by_cases e:p.1=k
    · have a:¬ decide (p.1≠k)=true:=by simp [e]
      have b:¬ decide (q.1≠k)=true:=by simp [h1.symm.trans e]
      rw [if_neg a,if_neg b];exact ih
    · have e':¬ q.1=k:=fun z=>e (h1.trans z)
      have a:decide (p.1≠k)=true:=by simp [e]
      have b:decide (q.1≠k)=true:=by simp [e']
      rw [if_pos a,if_pos b];exact .cons ⟨h1,h2⟩ ih
theorem KV.keys {kvs:List (κ × V)}{vs:List (κ × Value)}(r:KV kvs vs):kvs.map (·.1)=vs.map (·.1):=by
  unfold KV at r
  induction r with
  | nil=>rfl
  | cons h t ih=>rw [List.map_cons,List.map_cons,ih,h.1]
theorem KV.length {kvs:List (κ × V)}{vs:List (κ × Value)}(r:KV kvs vs):kvs.length=vs.length:=Paired.length r
theorem dropK_le (kvs:List (κ × V))(k:κ):(dropK kvs k).length≤kvs.length:=List.length_filter_le _ _
end
theorem kV_is {P:Program}{w:World}{k:Key}{u:Value}(r:RelV (kV k) u):(mixKind P w).is k u=true:=by
  cases k with
  | inl i=>obtain ⟨t,e⟩:=(show ∃ t,u=Value.int i t from r);subst e;exact mixKind_int P w i t
  | inr x=>obtain ⟨t,e⟩:=(show ∃ t,u=Value.str x t from r);subst e;exact mixKind_str P w x t
theorem items_are {P:Program}{w:World}:∀ {ks:List Key} {us:List Value},Vals (ks.map kV) us→ItemsAre (mixKind P w) ks us
  | [],_,r=>by rw [List.map_nil] at r;cases r;exact .nil
  | k::ks,_,r=>by
    rw [List.map_cons] at r
    cases r with
    | cons h t=>exact .cons (kV_is h) (items_are t)
abbrev KT (H:Hp):List (List Key × V)→List (List Key × Addr × Value)→Prop:=Paired fun p q=>p.1=q.1∧H q.2.1=some (.tup (p.1.map kV))∧RelV p.2 q.2.2
theorem KT.val {H:Hp}{kvs:List (List Key × V)}{xs:List (List Key × Addr × Value)}(r:KT H kvs xs)(k:List Key):RelO (valV kvs k) ((atKey xs k).map (·.2)):=by
  induction r with
  | nil=>exact True.intro
  | @cons p q ps qs h t ih =>
    obtain ⟨h1,_,h2⟩:=h
    by_cases e:p.1=k
    · have e':q.1=k:=h1.symm.trans e
      have b:atKey (q::qs) k=some q.2:=by simp [atKey,List.find?_cons,e']
      rw [valV_pos e,b];exact h2
    · have e':¬ q.1=k:=fun z=>e (h1.trans z)
      have b:atKey (q::qs) k=atKey qs k:=by simp [atKey,List.find?_cons,e']
      rw [valV_neg e,b];exact ih
theorem KT.repl {H:Hp}{kvs:List (List Key × V)}{xs:List (List Key × Addr × Value)}(r:KT H kvs xs)(k:List Key){y:V}{u:Value}(ry:RelV y u) :
    KT H (kvs.map fun kv=>if kv.1=k then (kv.1,y) else kv) (xs.map (putAt k u)):=by
  induction r with
  | nil=>exact .nil
  | @cons p q ps qs h t ih =>
    rw [List.map_cons,List.map_cons]
    refine .cons ?_ ih
    obtain ⟨h1,h2,h3⟩:=h
    unfold putAt
    by_cases e:p.1=k
    · rw [if_pos e,if_pos (h1.symm.trans e)];exact ⟨h1,h2,ry⟩
    · rw [if_neg e,if_neg (fun z=>e (h1.trans z))];exact ⟨h1,h2,h3⟩
theorem KT.put {H:Hp}{kvs:List (List Key × V)}{xs:List (List Key × Addr × Value)}(r:KT H kvs xs)(k:List Key){b:Addr}{y:V}{u:Value}(hb:H b=some (.tup (k.map kV)))(ry:RelV y u) :
    KT H (putK kvs k y) (storedH xs k b u):=by
  have e:(kvs.any fun kv=>decide (kv.1=k))=(atKey xs k).isSome:=by
    rw [valV_any,(r.val k).isSome_eq,Option.isSome_map]
  unfold putK storedH
  rw [e]
  by_cases q:(atKey xs k).isSome=true
  · rw [if_pos q,if_pos q];exact r.repl k ry
  · rw [if_neg q,if_neg q];exact Paired.snoc r ⟨rfl,hb,ry⟩
theorem KT.keeps {H H':Hp}{kvs:List (List Key × V)}{xs:List (List Key × Addr × Value)}(r:KT H kvs xs)(ht:∀ b ys,H b=some (.tup ys)→H' b=some (.tup ys)):KT H' kvs xs :=
  Paired.mapP r fun _ _ z=>⟨z.1,ht _ _ z.2.1,z.2.2⟩
section
variable {P:Program}{w:World}{H:Hp}{h:Heap}{a:Addr}
theorem rd_of {u:HO}(ok:HOk P w H h)(e:Rd H a u):ObjOk P w H h a u:=e.ok ok
theorem dk_rd {kvs:List (Key × V)}(ok:HOk P w H h)(e:Rd H a (.dK kvs)):kvs.length≤sizeLine∧(a==sysModules)=false∧∃ vs,KV kvs vs∧h.DictOf (mixKind P w) a vs :=
  show ObjOk P w H h a (.dK kvs) from rd_of ok e
theorem dk_of {kvs:List (Key × V)}(ok:HOk P w H h)(e:H a=some (.dK kvs)):kvs.length≤sizeLine∧(a==sysModules)=false∧∃ vs,KV kvs vs∧h.DictOf (mixKind P w) a vs:=dk_rd ok (.inl e)
theorem key_of {ks:List Key}(ok:HOk P w H h)(e:H a=some (.tup (ks.map kV))):(tupleKind (mixKind P w)).is h ks a:=by
  obtain ⟨_,its,r,o,h1,h2,n,h3⟩:=(show ObjOk P w H h a (.tup (ks.map kV)) from ok a _ e)
  exact ⟨o,its.toArray,n,h1,h2,h3,by simpa using items_are r⟩
theorem dt_rd {kvs:List (List Key × V)} (ok:HOk P w H h) (e:Rd H a (.dT kvs)):kvs.length≤sizeLine∧(a==sysModules)=false ∧
    ∃ xs,KT H kvs xs∧h.DictOfH (tupleKind (mixKind P w)) a xs:=by
  obtain ⟨z,y,xs,r,o,es,ep,h1,h2,h3,h4,h5⟩:=(show ObjOk P w H h a (.dT kvs) from rd_of ok e)
  refine ⟨z,y,xs,r,o,es,ep,h1,h2,h3,h4,fun x hx=>?_,h5⟩
  have all:∀ {l:List (List Key × V)} {m:List (List Key × Addr × Value)},KT H l m→∀ x∈m,(tupleKind (mixKind P w)).is h x.1 x.2.1:=by
    intro l m q
    induction q with
    | nil=>intro x hx;exact nomatch hx
    | @cons p q ps qs hq t ih =>
      intro x hx
      rcases List.mem_cons.mp hx with e | hx
      · subst e
        exact key_of ok (by rw [← hq.1];exact hq.2.1)
      · exact ih x hx
  exact all r x hx
theorem dt_of {kvs:List (List Key × V)}(ok:HOk P w H h)(e:H a=some (.dT kvs)):kvs.length≤sizeLine∧(a==sysModules)=false ∧
    ∃ xs,KT H kvs xs∧h.DictOfH (tupleKind (mixKind P w)) a xs:=dt_rd ok (.inl e)
end
def DGet (H:Hp)(a:Addr)(y:V)(r:Option V):Prop :=
  (∃ kvs k,Rd H a (.dK kvs)∧y=kV k∧r=valV kvs k)∨∃ kvs k b,Rd H a (.dT kvs)∧y=.ref b∧H b=some (.tup (k.map kV))∧r=valV kvs k
def DPut (H:Hp)(a:Addr)(y v:V)(H':Hp):Prop :=
  (∃ kvs k,H a=some (.dK kvs)∧y=kV k∧kvs.length<sizeLine∧H'=upd H a (.dK (putK kvs k v))) ∨
  ∃ kvs k b,H a=some (.dT kvs)∧y=.ref b∧H b=some (.tup (k.map kV))∧kvs.length<sizeLine∧H'=upd H a (.dT (putK kvs k v))
theorem DPut.k {H:Hp}{a:Addr}{kvs:List (Key × V)}{k:Key}{v:V}(e:H a=some (.dK kvs))(hl:kvs.length<sizeLine):DPut H a (kV k) v (upd H a (.dK (putK kvs k v))):=.inl ⟨kvs,k,e,rfl,hl,rfl⟩
section
variable {X:Cx}{pins:List (Addr × Obj)}{σ:St}{H:Hp}{s:Shared}{a:Addr}{y v:V}{u r:Value}{o:Option V}{A:Around}{E:Value→Shared→Prop}
theorem Inv.big (I:Inv X pins σ H s):sysModules<s.heap.objs.size:=by
  have h:mainGlobals<s.heap.objs.size:=(I.mod.glob.keeps I.bk).lt
  exact Nat.lt_trans (by decide) h
theorem d_getItem {Q:Value→Shared→Prop}(hu:A.units+1<cLine)(I:Inv X pins σ H s)(g:DGet H a y (some v))(ry:RelV y u)(h:∀ w' s',Inv X pins σ H s'→RelV v w'→Q w' s') :
    wpAny (model X.prog X.w) A (getItem (.ref a) u) Q E s:=by
  rcases g with ⟨kvs,k,e,ey,l⟩ | ⟨kvs,k,b,e,ey,eb,l⟩
  · subst ey
    obtain ⟨z,hd,vs,rel,dd⟩:=dk_rd I.hok e
    obtain ⟨w',hw,rw'⟩:=RelO.some_of (v:=v) (o:=valueAt vs k) (by rw [l];exact rel.val k)
    exact wpAny_getItem_of (kV_is ry) dd.mapOf hw (h w' _ (I.tok _) rw')
  · subst ey
    cases (show u=Value.ref b from ry)
    obtain ⟨z,hd,xs,rel,dd⟩:=dt_rd I.hok e
    obtain ⟨w',hw,rw'⟩:=RelO.some_of (v:=v) (o:=(atKey xs k).map (·.2)) (by rw [l];exact rel.val k)
    obtain ⟨p,hp,hp2⟩:=Option.map_eq_some_iff.mp hw
    refine wpAny_getItem_heap (tupleKind_room_in1 hu) (key_of I.hok eb) dd hp ?_
    rw [hp2]
    exact h w' _ (I.tok _) rw'
theorem d_write {h':Heap}{t':Nat}{ob:HO}(I:Inv X pins σ H s)(mu:Mut (H a))(hs:Heap.SameBut a s.heap h')(he:∃ q,h'.get? a=some q)(new:ObjOk X.prog X.w (upd H a ob) h' a ob) :
    Inv X pins σ (upd H a ob) { s with heap:=h',toks:=t' } :=
  I.write (x:=a) (e:=a) mu (.inl rfl) (fun b q hb z=>(hs.2 b hb).trans z) he new
theorem dk_new {P:Program}{w:World}{H':Hp}{h':Heap}{kvs:List (Key × V)}{vs:List (Key × Value)}(z:kvs.length≤sizeLine)(hd:(a==sysModules)=false)(rel:KV kvs vs)(dd:h'.DictOf (mixKind P w) a vs) :
    ObjOk P w H' h' a (.dK kvs):=⟨z,hd,vs,rel,dd⟩
theorem d_setItem {H':Hp}{Q:Unit→Shared→Prop}(hu:A.units+1<cLine)(I:Inv X pins σ H s)(g:DPut H a y v H')(ry:RelV y u)(rv:RelV v r)(h:∀ s',Inv X pins σ H' s'→Q () s') :
    wpAny (model X.prog X.w) A (setItem (.ref a) u r) Q E s:=by
  rcases g with ⟨kvs,k,e,ey,l,eH⟩ | ⟨kvs,k,b,e,ey,eb,l,eH⟩
  · subst ey eH
    obtain ⟨z,hd,vs,rel,dd⟩:=dk_of I.hok e
    have hz:vs.length≤sizeLine:=by rw [← rel.length];exact z
    have hl:(putK kvs k v).length≤sizeLine:=by have:=length_putK kvs k v;omega
    refine wpAny_setItem_pairs (hsz:=hz) (kV_is ry) dd fun h' dd' hs=>h _ ?_
    have he:∃ q,h'.get? a=some q:=let ⟨q,_,_,hq,_⟩:=dd';⟨q,hq⟩
    exact d_write I (by rw [e];exact True.intro) hs he (dk_new hl hd (rel.put k rv) dd')
  · subst ey eH
    cases (show u=Value.ref b from ry)
    obtain ⟨z,hd,xs,rel,dd⟩:=dt_of I.hok e
    have hz:xs.length≤sizeLine:=by rw [← Paired.length rel];exact z
    have hl:(putK kvs k v).length≤sizeLine:=by have:=length_putK kvs k v;omega
    refine wpAny_setItem_heap (hsz:=hz) (tupleKind_room_in1 hu) (key_of I.hok eb) dd fun h' dd' hs=>h _ ?_
    obtain ⟨q,es,ep,hq,h2,h3,h4,_,h5⟩:=dd'
    refine d_write I (by rw [e];exact True.intro) hs ⟨q,hq⟩ ⟨hl,hd,_,(rel.put k eb rv).keeps fun c ys ec=>?_,q,es,ep,hq,h2,h3,h4,h5⟩
    rw [upd_ne (ne_of ec e (fun z=>nomatch z))]
    exact ec
end
section
variable {X:Cx}{pins:List (Addr × Obj)}{σ:St}{H:Hp}{s:Shared}{a:Addr}{kvs:List (Key × V)}{k:Key}{u:Value}{A:Around}{E:Value→Shared→Prop}
theorem d_pop {v:V}{more:List Value}{Q:Value→Shared→Prop}(I:Inv X pins σ H s)(e:H a=some (.dK kvs))(ry:RelV (kV k) u)(l:valV kvs k=some v)(hm:more=[]∨∃ x,more=[x])
    (h:∀ w' s',Inv X pins σ (upd H a (.dK (dropK kvs k))) s'→RelV v w'→Q w' s'):wpAny (model X.prog X.w) A (call (.builtin "dict.pop") (.ref a::u::more)) Q E s:=by
  obtain ⟨z,hd,vs,rel,dd⟩:=dk_of I.hok e
  obtain ⟨w',hw,rw'⟩:=RelO.some_of (v:=v) (o:=valueAt vs k) (by rw [← l];exact rel.val k)
  have hp:(keyPart u).isSome=true:=by
    cases k with
    | inl i=>obtain ⟨t,q⟩:=(show ∃ t,u=Value.int i t from ry);subst q;rfl
    | inr x=>obtain ⟨t,q⟩:=(show ∃ t,u=Value.str x t from ry);subst q;rfl
  have ha:argsOk "dict.pop" ⟨.ref a::u::more,[]⟩:=by
    rcases hm with q | ⟨x,q⟩
    · subst q;exact PySem.F.args_dict_pop_2 _ _
    · subst q;exact PySem.F.args_dict_pop_3 _ _ _
  refine call_meetsIn PySem.F.slot_dict_pop dd.typeIs PySem.F.entry_dict_pop ha (meets_dict_pop_there (mixKind X.prog X.w) a (kV_is ry) more hm hp)
    ⟨vs,w',dd,by rw [← rel.length];exact z,hw,fun h' dd' hs=>h w' _ ?_ rw'⟩
  have he:∃ q,h'.get? a=some q:=let ⟨q,_,_,hq,_⟩:=dd';⟨q,hq⟩
  exact d_write I (by rw [e];exact True.intro) hs he (dk_new (Nat.le_trans (dropK_le kvs k) z) hd (rel.drop k) dd')
end
def NoSl (i:Expr):Prop:=∀ ov iv,subscripted i false ov iv=operate [ov,iv] (getItem ov iv)
theorem subD_of {prog:Program}{w:World}{A:Around}{E:Value→Shared→Prop}{s:Shared}{env:Env}{value slice:Expr}{pos:Pos}{T id:String}{Q:Value→Shared→Prop}
    (hl:typeLookup (.type T) "__getitem__"=pure (some (.builtin id))) (hs:NoSl slice)
    (h:wpAny (model prog w) A (eval value env) (fun o s₁=>wpAny (model prog w) A (eval slice env) (fun i s₂=>s₂.TypeIs o T∧wpAny (model prog w) A (getItem o i) Q E s₂) E s₁) E s) :
    wpAny (model prog w) A (eval (.Subscript value slice pos) env) Q E s:=by
  refine Subscript_ (wpAny_mono h (fun o s₁ h₁=>wpAny_mono h₁ (fun i s₂ h₂=>?_) fun _ _ x=>x) fun _ _ x=>x)
  obtain ⟨hT,h₂⟩:=h₂
  unfold subscriptTail
  refine wpAny_bind ?_
  rw [getitemInPython_of_ne hT.not_modules]
  refine wpAny_bind (wpAny_specialOf hT hl ?_)
  have fin:wpAny (model prog w) A (subscripted slice false o i) (fun r s₃=>wpAny (model prog w) A (letTemporaryGo value o r >>= fun _=>pure r) Q E s₃) E s₂:=by
    rw [hs o i]
    exact wpAny_operating (wpAny_mono h₂ (fun r s₃ h₃=>wpAny_bind (wpAny_letTemporaryGo (wpAny_pure h₃))) fun _ _ x=>x)
  first
    | exact wpAny_pure (wpAny_bind fin)
    | exact wpAny_bind (wpAny_pure (wpAny_bind fin))
    | exact wpAny_bind fin
theorem dict_typeIs {X:Cx}{pins:List (Addr × Obj)}{σ:St}{H:Hp}{s:Shared}{a:Addr}{y:V}{o:Option V}(I:Inv X pins σ H s)(g:DGet H a y o):s.TypeIs (.ref a) "dict":=by
  rcases g with ⟨kvs,k,e,_,_⟩ | ⟨kvs,k,b,e,_,_,_⟩
  · obtain ⟨_,_,vs,_,dd⟩:=dk_rd I.hok e
    exact dd.typeIs
  · obtain ⟨_,_,xs,_,dd⟩:=dt_rd I.hok e
    exact dd.typeIs
def tDGet (td ty:TE):TE:=fun σ H Q=>td σ H fun x H1=>ty σ H1 fun y H2=>∃ a v,x=.ref a∧DGet H2 a y (some v)∧Q v H2
def sDPut (td ty tv:TE):TS:=fun D σ H=>tv σ H fun v H1=>td σ H1 fun x H2=>ty σ H2 fun y H3=>∃ a H4,x=.ref a∧DPut H3 a y v H4∧D.nx σ H4
section
variable {X:Cx}{o i e value:Expr}{pos pos' tpos:Pos}{td ty tv:TE}
theorem pe_dget (hu:X.A.units+1<cLine)(ho:PE X o td)(hi:PE X i ty)(hs:NoSl i):PE X (.Subscript o i pos) (tDGet td ty):=by
  intro pins s σ H Q I h
  refine subD_of PySem.F.slot_dict_getitem.lookup hs (thn (ho pins s σ H _ I h) fun u s1 ⟨x,H1,I1,rx,q1⟩=>thn (hi pins s1 σ H1 _ I1 q1) fun iv s2 ⟨y,H2,I2,ry,a,v,ex,g,q2⟩=>?_)
  subst ex
  obtain rfl:u=Value.ref a:=rx
  exact ⟨dict_typeIs I2 g,d_getItem hu I2 g ry fun w' s3 I3 rw'=>⟨v,H2,I3,rw',q2⟩⟩
theorem ps_dput (hu:X.A.units+1<cLine)(ho:PE X o td)(hi:PE X i ty)(hv:PE X value tv)(hs:swapsWith value (some (.Subscript o i pos')) pos.line X.env=pure false) :
    PS X (.Assign [.Subscript o i pos'] value pos) (sDPut td ty tv):=by
  intro pins s σ H D I h
  refine wpAny_Assign_Subscript (thn (hv pins s σ H _ I h) fun r s1 ⟨v,H1,I1,rv,q1⟩=>thn (ho pins s1 σ H1 _ I1 q1) fun u s2 ⟨x,H2,I2,rx,q2⟩=>thn (hi pins s2 σ H2 _ I2 q2) fun iv s3 ⟨y,H3,I3,ry,a,H4,ex,g,q3⟩=>?_) hs
  subst ex
  obtain rfl:u=Value.ref a:=rx
  exact d_setItem hu I3 g ry rv fun s4 I4=>⟨σ,H4,I4,q3⟩
end
theorem dk_empty {P:Program}{w:World}{H:Hp}(h:Heap)(hb:sysModules<h.objs.size):ObjOk P w H (h.push { cls:=.type "dict",data:=.dict #[] }) h.objs.size (.dK []) :=
  ⟨Nat.zero_le _,beq_eq_false_iff_ne.mpr (Ne.symm (Nat.ne_of_lt hb)),[],.nil,Heap.DictOf.new h⟩
def tDNewK:TE:=fun _ H Q=>∀ p,H p=none→Q (.ref p) (upd H p (.dK []))
section
variable {X:Cx}{pos:Pos}
theorem pe_dnewK:PE X (.Dict [] [] pos) tDNewK:=fun pins s σ H Q I h =>
  wpAny_Dict_empty ⟨.ref s.heap.objs.size,_,I.laid (a:=s.heap.objs.size) (o:=.dK []) (t':=s.toks) (fun _ _ q=>Heap.get?_push_of_some _ q) (Nat.le_refl _) (dk_empty s.heap I.big),rfl,h _ (I.hok.fresh (Nat.le_refl _))⟩
end
structure M1 (X:Cx)(o:Expr)(m:Str)(apos:Pos)(e:Expr)(cpos:Pos):Prop where
  base:attributeBase o m X.env (eval o X.env)=eval o X.env
  few:((backTo cpos (starEach [e] X.env)).all (fun x=>!x.1)&&(backToKw cpos (keywordEach [] X.env)).all (fun x=>x.1.isSome)
    && decide (([e]:List Expr).length+([]:List Keyword).length+(if ([]:List Keyword).isEmpty then 0 else 1)<30))=true
  line:(apos.endLine==cpos.line)=true
  trees:backTo cpos (starEach [e] X.env)=[(false,eval e X.env)]
structure M2 (X:Cx)(o:Expr)(m:Str)(apos:Pos)(e f:Expr)(cpos:Pos):Prop where
  base:attributeBase o m X.env (eval o X.env)=eval o X.env
  few:((backTo cpos (starEach [e,f] X.env)).all (fun x=>!x.1)&&(backToKw cpos (keywordEach [] X.env)).all (fun x=>x.1.isSome)
    && decide (([e,f]:List Expr).length+([]:List Keyword).length+(if ([]:List Keyword).isEmpty then 0 else 1)<30))=true
  line:(apos.endLine==cpos.line)=true
  trees:backTo cpos (starEach [e,f] X.env)=[(false,eval e X.env),(false,eval f X.env)]
def IsD (H:Hp)(a:Addr):Prop:=(∃ kvs,Rd H a (.dK kvs))∨∃ kvs,Rd H a (.dT kvs)
theorem isD_at {X:Cx}{pins:List (Addr × Obj)}{σ:St}{H:Hp}{s:Shared}{a:Addr}(I:Inv X pins σ H s)(d:IsD H a) :
    s.TypeIs (.ref a) "dict"∧(∀ b,Value.ref a=.ref b→∃ ob,s.heap.get? b=some ob∧ob.dict=none)∧(a==sysModules)=false:=by
  rcases d with ⟨kvs,e⟩ | ⟨kvs,e⟩
  · obtain ⟨_,hd,vs,_,dd⟩:=dk_rd I.hok e
    refine ⟨dd.typeIs,fun b q=>?_,hd⟩
    cases q
    obtain ⟨ob,_,_,h1,h2,_⟩:=dd
    exact ⟨ob,h1,h2.2.1⟩
  · obtain ⟨_,hd,xs,_,dd⟩:=dt_rd I.hok e
    refine ⟨dd.typeIs,fun b q=>?_,hd⟩
    cases q
    obtain ⟨ob,_,_,h1,h2,_⟩:=dd
    exact ⟨ob,h1,h2.2.1⟩
section
variable {X:Cx}{pins:List (Addr × Obj)}{σ:St}{H:Hp}{s:Shared}{a:Addr}{y d:V}{u r:Value}{o:Option V}{A:Around}{E:Value→Shared→Prop}
end
def tDPop1 (td ty:TE):TE:=fun σ H Q=>td σ H fun x H1=>∃ a,x=.ref a∧IsD H1 a∧ty σ H1 fun y H2=>∃ kvs k v,H2 a=some (.dK kvs)∧y=kV k∧valV kvs k=some v∧Q v (upd H2 a (.dK (dropK kvs k)))
section
variable {X:Cx}{o e f:Expr}{apos cpos:Pos}{td ty tx:TE}
theorem pe_dpop1 (ho:PE X o td)(he:PE X e ty)(m:M1 X o "pop" apos e cpos):PE X (.Call (.Attribute o "pop" apos) [e] [] cpos) (tDPop1 td ty):=by
  intro pins s σ H Q I h
  refine wpAny_Call_method m.base m.few m.line PySem.F.plainAttrs_dict PySem.F.slot_dict_pop PySem.F.type_dict_pop (thn (ho pins s σ H _ I h) fun u s1 ⟨x,H1,I1,rx,a,ex,d,q1⟩=>?_)
  subst ex
  obtain rfl:u=Value.ref a:=rx
  obtain ⟨t1,t2,_⟩:=isD_at I1 d
  refine ⟨t1,t2,?_⟩
  rw [m.trees]
  refine Calls.callWith_builtin rfl (Calls.evalArgs_plain (Calls.spliced_cons (thn (he pins s1 σ H1 _ I1 q1) fun iv s2 ⟨y,H2,I2,ry,kvs,k,v,ea,ey,l,q2⟩=>Calls.spliced_nil ?_)))
  subst ey
  exact d_pop I2 ea ry l (.inl rfl) fun w' s3 I3 rw'=>⟨v,_,I3,rw',q2⟩
end
section
variable {X:Cx}{pins:List (Addr × Obj)}{σ:St}{H:Hp}{s:Shared}{a:Addr}{kvs:List (Key × V)}{A:Around}{E:Value→Shared→Prop}
end
section
variable {X:Cx}{pins:List (Addr × Obj)}{σ:St}{H:Hp}{s:Shared}{a:Addr}{y:V}{u:Value}{A:Around}{E:Value→Shared→Prop}
end
section
variable {X:Cx}
end
section
variable {κ:Type}[DecidableEq κ]
end
end L2
namespace BM
open PySem L2 PyProof.Rows
def wd:List Nat→Nat
  | []=>0
  | p::r=>2^p+wd r
def Up:Nat→List Nat→Prop
  | _,[]=>True
  | a,p::r=>a≤p∧Up (p+1) r
def pl (n w:Nat):List Nat:=(List.range n).filter w.testBit
inductive Dec:List Nat→List (Nat × Nat)→Prop
  | nil:Dec [] []
  | cons {p n:Nat} {rest:List Nat} {rs:List (Nat × Nat)} (u:Up (p+n+2) rest) (h:Dec rest rs):Dec (List.range' p (n+1)++rest) ((p,p+n)::rs)
end BM
namespace L2
open PySem PySem.Spec PyProof.Rows
section
variable {prog:Program}{w:World}{A:Around}{R:Result→Shared→Prop}{s:Shared}
theorem compLoop_any {elt target iter:Expr}{ifs:List Expr}{scope:Scope}{pos:Pos}{it acc:Value}{env:Env}(I:Nat→Shared→Prop)
    (turn : ∀ n s,I n s→wpAny (model prog w) A (pyNext it) (fun r s₁=>match r with
      | none=>R (.ok .next) s₁
      | some v=>wpAny (model prog w) A (letOwnedTupleGo target it v) (fun _ s₀=>wpAny (model prog w) A (assign target env v) (fun _ s₂ =>
          wpAny (model prog w) A (forIn ifs true fun c r=>if r=true then do let ok ← isTrue c env (eval c env);pure (ForInStep.yield ok) else pure (ForInStep.yield r)) (fun ok s₃ =>
            if ok=true then wpAny (model prog w) A (eval elt env) (fun x s₄ =>
              wpAny (model prog w) A (call (.builtin "list.append") [acc,x]) (fun _ s₅=>∃ m,m<n∧I m s₅) (fun _ _=>False) s₄) (fun _ _=>False) s₃
            else ∃ m,m<n∧I m s₃) (fun _ _=>False) s₂) (fun _ _=>False) s₀) (fun _ _=>False) s₁) (fun _ _=>False) s)
    (n:Nat) (h:I n s) :
    codeAny (model prog w) A (.compLoop (.ListComp elt [⟨target,iter,ifs,0⟩] scope pos) 0 it acc env) R s:=by
  refine codeAny_loop rfl I (fun n s hI=>?_) n h
  show wpAny _ A ((compTurn (.ListComp elt [⟨target,iter,ifs,0⟩] scope pos) 0 it acc env).onRaise (fun x=>do noteFrame x env;theTreesLotGoes x)) _ _ s
  refine wpAny_noted ?_
  rw [compTurn_list]
  refine wpAny_bind (wpAny_standAt (wpAny_bind (wpAny_mono (turn n s hI) (fun r s₁ h₁=>?_) fun _ _ h'=>h'.elim)))
  cases r with
  | none=>exact wpAny_pure h₁
  | some v =>
    refine wpAny_bind (wpAny_mono h₁ (fun _ s₀ h₀=>?_) fun _ _ h'=>h'.elim)
    refine wpAny_bind (wpAny_mono h₀ (fun _ s₂ h₂=>wpAny_bind (wpAny_mono h₂ (fun ok s₃ h₃=>?_) fun _ _ h'=>h'.elim)) fun _ _ h'=>h'.elim)
    cases ok with
    | false=>exact wpAny_pure ⟨rfl,h₃⟩
    | true =>
      exact wpAny_bind (wpAny_bind (wpAny_mono h₃ (fun x s₄ h₄=>wpAny_bind (wpAny_mono h₄ (fun _ s₅ h₅=>wpAny_pure (wpAny_pure ⟨rfl,h₅⟩)) fun _ _ h'=>h'.elim)) fun _ _ h'=>h'.elim))
end
theorem closure_aux {env:Env}:∀ (names:List (Str × NameKind)) (acc:List (Str × Addr)),(∀ z∈names,z.2=.free→∃ c,env.cells.lookup z.1=some c) →
    ∃ cl,(forIn names acc fun x r=>if (x.2==NameKind.free)=true then do let a ← cellOf env x.1;pure (ForInStep.yield ((x.1,a)::r)) else pure (ForInStep.yield r):Sem (List (Str × Addr)))=pure cl ∧
      (∀ y c,cl.lookup y=some c→acc.lookup y=some c∨env.cells.lookup y=some c)∧(∀ y,((∃ c,acc.lookup y=some c)∨(y,NameKind.free)∈names)→∃ c,cl.lookup y=some c)
  | [],acc,_=>⟨acc,by rw [List.forIn_nil],fun _ _ h=>.inl h,fun y h=>by
      rcases h with h | h
      · exact h
      · simp at h⟩
  | (n, k)::r,acc,h=>by
    have hr:∀ z∈r,z.2=.free→∃ c,env.cells.lookup z.1=some c:=fun z hz=>h z (List.mem_cons_of_mem _ hz)
    by_cases hk:k=.free
    · subst hk
      obtain ⟨c,hc⟩:=h (n,.free) List.mem_cons_self rfl
      obtain ⟨cl,e,h1,h2⟩:=closure_aux r ((n,c)::acc) hr
      refine ⟨cl,?_,fun y d hd=>?_,fun y hy=>?_⟩
      · rw [List.forIn_cons]
        have e1:cellOf env n=pure c:=by unfold cellOf;rw [hc]
        simp only [beq_self_eq_true,if_true,e1,pure_bind]
        exact e
      · rcases h1 y d hd with z | z
        · rw [List.lookup_cons] at z
          cases hy:y==n with
          | true =>
            rw [hy] at z
            have:y=n:=by simpa using hy
            subst this
            cases z
            exact .inr hc
          | false=>rw [hy] at z;exact .inl z
        · exact .inr z
      · refine h2 y ?_
        rcases hy with ⟨d,hd⟩ | hy
        · cases q:y==n with
          | true=>exact .inl ⟨c,by rw [List.lookup_cons,q]⟩
          | false=>exact .inl ⟨d,by rw [List.lookup_cons,q];exact hd⟩
        · rcases List.mem_cons.mp hy with z | z
          · cases z
            exact .inl ⟨c,by rw [List.lookup_cons,beq_self_eq_true]⟩
          · exact .inr z
    · obtain ⟨cl,e,h1,h2⟩:=closure_aux r acc hr
      refine ⟨cl,?_,h1,fun y hy=>h2 y ?_⟩
      · rw [List.forIn_cons]
        have:(k==NameKind.free)=false:=by simpa using hk
        simp only [this,Bool.false_eq_true,if_false,pure_bind]
        exact e
      · rcases hy with z | z
        · exact .inl z
        · rcases List.mem_cons.mp z with q | q
          · cases q
            exact absurd rfl hk
          · exact .inr q
theorem closure_of {scope:Scope}{env:Env}(h:∀ z∈scope.names,z.2=.free→∃ c,env.cells.lookup z.1=some c) :
    ∃ cl,closureFor scope env=pure cl∧(∀ y c,cl.lookup y=some c→env.cells.lookup y=some c)∧∀ y,(y,NameKind.free)∈scope.names→∃ c,cl.lookup y=some c:=by
  obtain ⟨cl,e,h1,h2⟩:=closure_aux (env:=env) scope.names [] h
  refine ⟨cl,?_,fun y c hc=>?_,fun y hy=>h2 y (.inr hy)⟩
  · unfold closureFor
    exact (congrArg (fun m:Sem (List (Str × Addr))=>m >>= fun cs=>pure cs) e).trans (pure_bind _ _)
  · rcases h1 y c hc with z | z
    · cases z
    · exact z
def compX (X:Cx)(scope:Scope)(own:List Str)(caps:List Nat)(cl:List (Str × Addr))(C:Addr)(s₃:Shared)(H₃:Hp)(fp:List Addr):Cx :=
  { X with env:=compEnvC scope cl C X.env,N:=own++caps.map fun j=>X.N.getD j Str.empty,s₀:=s₃,H₀:=H₃,outer:=X.stack,stack:=X.stack,ex:=fp,fn:=fun _=>false,pn:=[],xe:=fun _ _=>False }
def capSt (n:Nat)(caps:List Nat)(σ:St):St:=List.replicate n none++caps.map fun j=>σ.getD j none
def compOk (sc osc:Scope):Bool :=
  (sc.kind==.function)&&sc.names.all fun z=>match z.2 with
    | .cell=>false
    | .local=>sc.names.lookup z.1==some .local
    | .free=>osc.names.lookup z.1==some .cell||osc.names.lookup z.1==some .free
    | _=>true
def capOk (X:Cx)(sc:Scope):List Nat→Prop
  | []=>True
  | j::r=>(∃ y,X.N[j]?=some y∧sc.names.lookup y=some .free∧(X.env.scope.names.lookup y=some .cell∨X.env.scope.names.lookup y=some .free))∧capOk X sc r
def gOwn (n:Nat)(g:TG):Prop:=∀ v σ H Q,g v σ H Q→g v σ H fun σ' H'=>(σ'.length=σ.length∧σ'.drop n=σ.drop n)∧Q σ' H'
theorem gOwn_name:gOwn 1 (gName 0):=fun v σ H Q h=>⟨⟨by simp,by cases σ<;>simp⟩,h⟩
def tNoTest:TT:=fun _ H Q=>Q true H
def tComp (n:Nat) (caps:List Nat) (wi:TI) (g:TG) (tt:TT) (te:TE):TE:=fun σ H Q=>wi σ H fun J H1=>∀ D,H1 D=none→∃ W:Nat→Nat→Hp→Prop,(∃ m,W 0 m (upd H1 D (.lst [])))∧∀ i m H2,W i m H2 →
  (J.stop i H2∧Q (.ref D) H2)∨(J.go i H2∧∀ x H3,J.yld i H2 x H3→g x (capSt n caps σ) H3 fun σ4 H4=>tt σ4 H4 fun b H5 =>
    if b=true then te σ4 H5 fun y H6=>∃ xs,H6 D=some (.lst xs)∧xs.length<sizeLine∧∃ m',m'<m∧W (i+1) m' (upd H6 D (.lst (xs++[y]))) else ∃ m',m'<m∧W (i+1) m' H5)
def PTs (X:Cx) (ifs:List Expr) (t:TT):Prop :=
  ∀ (pins:List (Addr × Obj)) (s:Shared) (σ:St) (H:Hp) (Q:Bool→Hp→Prop),Inv X pins σ H s→t σ H Q →
    wpAny (model X.prog X.w) X.A (forIn ifs true fun c r=>if r=true then do let ok ← isTrue c X.env (eval c X.env);pure (ForInStep.yield ok) else pure (ForInStep.yield r)) (TP X pins σ Q) X.xe s
theorem pts_nil {X:Cx}:PTs X [] tNoTest:=fun _ _ _ H _ I h=>wpAny_tests_nil ⟨H,I,h⟩
theorem pts_one {X:Cx}{c:Expr}{t:TT}(h:PT X c t):PTs X [c] t:=fun pins s σ H Q I q=>wpAny_tests_one (h pins s σ H Q I q)
theorem lookup_relabel_free {env:Env}:∀ {names:List (Str × NameKind)} {x:Str} {k:NameKind},names.lookup x=some k →
    (names.map fun (n,k)=>if (k==NameKind.free&&env.scope.kind==.function&&env.kindOf n==some .cell) then (n,NameKind.cell) else (n,k)).lookup x=some (if (k==NameKind.free&&env.scope.kind==.function&&env.kindOf x==some .cell) then NameKind.cell else k)
  | [],_,_,h=>by simp at h
  | (n,k')::r,x,k,h=>by
    have ih:=@lookup_relabel_free env r x k
    show List.lookup x ((if (k'==NameKind.free&&env.scope.kind==.function&&env.kindOf n==some .cell)=true then (n,NameKind.cell) else (n,k'))::_)=_
    cases hx:x==n with
    | true =>
      simp only [List.lookup_cons,hx] at h
      cases h
      have:x=n:=by simpa using hx
      subst this
      split<;>simp [List.lookup_cons]
    | false =>
      simp only [List.lookup_cons,hx] at h
      split
      · simp only [List.lookup_cons,hx];exact ih h
      · simp only [List.lookup_cons,hx];exact ih h
theorem lookup_relabel_inv {env:Env}:∀ {names:List (Str × NameKind)} {x:Str} {k:NameKind},
    (names.map fun (n,k)=>if (k==NameKind.free&&env.scope.kind==.function&&env.kindOf n==some .cell) then (n,NameKind.cell) else (n,k)).lookup x=some k →
    ∃ k',(x,k')∈names∧(k=k'∨(k'=.free∧k=.cell))
  | [],_,_,h=>by simp at h
  | (n, k')::r,x,k,h=>by
    have ih:=@lookup_relabel_inv env r x k
    rw [List.map_cons] at h
    cases hc:(k'==NameKind.free&&env.scope.kind==.function&&env.kindOf n==some .cell) with
    | true =>
      simp only [hc,if_true,List.lookup_cons] at h
      cases hx:x==n with
      | true =>
        simp only [hx,Option.some.injEq] at h
        have e:x=n:=by simpa using hx
        have:k'=.free:=by
          simp only [Bool.and_eq_true,beq_iff_eq] at hc
          exact hc.1.1
        exact ⟨.free,by rw [e,← this];exact List.mem_cons_self,.inr ⟨rfl,h.symm⟩⟩
      | false =>
        simp only [hx] at h
        obtain ⟨q,m,z⟩:=ih h
        exact ⟨q,List.mem_cons_of_mem _ m,z⟩
    | false =>
      simp only [hc,Bool.false_eq_true,if_false,List.lookup_cons] at h
      cases hx:x==n with
      | true =>
        simp only [hx,Option.some.injEq] at h
        have e:x=n:=by simpa using hx
        exact ⟨k',by rw [e];exact List.mem_cons_self,.inl h.symm⟩
      | false =>
        simp only [hx] at h
        obtain ⟨q,m,z⟩:=ih h
        exact ⟨q,List.mem_cons_of_mem _ m,z⟩
theorem cok_kind {sc osc:Scope}(h:compOk sc osc=true):sc.kind=.function:=by
  unfold compOk at h
  simp only [Bool.and_eq_true,beq_iff_eq] at h
  exact h.1
theorem cok_all {sc osc:Scope}(h:compOk sc osc=true):∀ z∈sc.names,(match z.2 with
    | .cell=>false
    | .local=>sc.names.lookup z.1==some .local
    | .free=>osc.names.lookup z.1==some .cell||osc.names.lookup z.1==some .free
    | _=>true)=true:=by
  unfold compOk at h
  simp only [Bool.and_eq_true] at h
  exact List.all_eq_true.mp h.2
theorem cok_cell {sc osc:Scope}(h:compOk sc osc=true):∀ z∈sc.names,z.2≠.cell:=fun z hz e=>by
  have:=cok_all h z hz
  rw [e] at this
  cases this
theorem cok_loc {sc osc:Scope}(h:compOk sc osc=true):∀ z∈sc.names,z.2=.local→sc.names.lookup z.1=some .local:=fun z hz e=>by
  have:=cok_all h z hz
  rw [e] at this
  simpa using this
theorem cok_free {sc osc:Scope}(h:compOk sc osc=true):∀ z∈sc.names,z.2=.free→osc.names.lookup z.1=some .cell∨osc.names.lookup z.1=some .free:=fun z hz e=>by
  have:=cok_all h z hz
  rw [e] at this
  simpa using this
theorem capOk.get {X:Cx}{sc:Scope}:∀ {caps:List Nat} {j:Nat},capOk X sc caps→j∈caps→∃ y,X.N[j]?=some y∧sc.names.lookup y=some .free∧(X.env.scope.names.lookup y=some .cell∨X.env.scope.names.lookup y=some .free)
  | [],_,_,h=>by simp at h
  | i::r,j,h,hj=>by
    rcases List.mem_cons.mp hj with e | e
    · subst e;exact h.1
    · exact h.2.get e
theorem mem_of_lookupN {x:Str}{k:NameKind}:∀ {l:List (Str × NameKind)},l.lookup x=some k→(x,k)∈l
  | [],h=>by simp at h
  | (n,k')::r,h=>by
    rw [List.lookup_cons] at h
    cases hx:x==n with
    | true =>
      simp only [hx,Option.some.injEq] at h
      have e:x=n:=by simpa using hx
      rw [e,h]
      exact List.mem_cons_self
    | false =>
      simp only [hx] at h
      exact List.mem_cons_of_mem _ (mem_of_lookupN h)
section
variable {X:Cx}{pins:List (Addr × Obj)}{σ:St}{H2:Hp}{s2:Shared}{scope:Scope}{own:List Str}{caps:List Nat}
theorem capSt_get {n:Nat}{caps:List Nat}{σ:St}{i:Nat}{v:V}(h:(capSt n caps σ)[i]?=some (some v)):n≤i∧∃ j,caps[i-n]?=some j∧σ[j]?=some (some v):=by
  unfold capSt at h
  rw [List.getElem?_append] at h
  split at h
  · rename_i hl
    rw [List.length_replicate] at hl
    rw [List.getElem?_replicate,if_pos hl] at h
    cases h
  · rename_i hl
    rw [List.length_replicate] at h hl
    refine ⟨by omega,?_⟩
    rw [List.getElem?_map] at h
    cases q:caps[i-n]? with
    | none=>rw [q] at h;cases h
    | some j =>
      rw [q] at h
      refine ⟨j,rfl,?_⟩
      have h:σ.getD j none=some v:=Option.some.inj h
      rw [List.getD_eq_getElem?_getD] at h
      cases z:σ[j]? with
      | none=>rw [z] at h;cases h
      | some o=>rw [z] at h;exact congrArg some h
theorem Inv.comp {n:Nat} {fp:List Addr} {cl:List (Str × Addr)} {C:Addr} {h4:Heap} {tk:Nat}
    (I2:Inv X pins σ H2 s2) (hok:compOk scope X.env.scope=true) (hcap:capOk X scope caps) (hown:own.length=n)
    (cl1:∀ y c,cl.lookup y=some c→X.env.cells.lookup y=some c) (cl2:∀ y,(y,NameKind.free)∈scope.names→∃ c,cl.lookup y=some c)
    (hfp:∀ b∈fp,FpOk X pins H2 b) (hobj:∀ b∈fp,b<s2.heap.objs.size) (hC:C=s2.heap.objs.size) (hn:h4.Ns C fun _=>none)
    (hsb:∀ b o,s2.heap.get? b=some o→h4.get? b=some o) :
    Inv (compX X scope own caps cl C s2 H2 fp) [] (capSt n caps σ) H2 { s2 with heap:=h4,toks:=tk }:=by
  have hkind:=cok_kind hok
  have ok':(compX X scope own caps cl C s2 H2 fp).Ok:=by
    refine ⟨I2.ok.mod,hkind,I2.ok.glob,I2.ok.blt,by rw [hC];exact Nat.le_refl _,fun x y c h1 h2=>I2.ok.inj x y c (cl1 x c h1) (cl1 y c h2),fun x hx=>?_,fun x c h=>(by cases h),I2.ok.hd,I2.ok.frames,.inl rfl,fun b hb=>⟨?_,fun x c h=>(hfp b hb).2.2.2.2.1 x c (cl1 x c h)⟩,I2.bs,?_,fun b o e hb=>?_,fun b hb hf=>?_,I2.stack,I2.stkFree⟩
    · have:∃ k',(x,k')∈scope.names∧(k'=.cell∨k'=.free):=by
        rcases hx with hx | hx
        · obtain ⟨k',m,z⟩:=lookup_relabel_inv (env:=X.env) (names:=scope.names) (x:=x) (k:=.cell) hx
          rcases z with z | z
          · exact ⟨k',m,.inl z.symm⟩
          · exact ⟨k',m,.inr z.1⟩
        · obtain ⟨k',m,z⟩:=lookup_relabel_inv (env:=X.env) (names:=scope.names) (x:=x) (k:=.free) hx
          rcases z with z | z
          · exact ⟨k',m,.inr z.symm⟩
          · cases z.2
      obtain ⟨k',m,z | z⟩:=this
      · subst z;exact absurd rfl (cok_cell hok _ m)
      · subst z;exact cl2 x m
    · show b≠C
      rw [hC];exact Nat.ne_of_lt (hobj b hb)
    · exact Nat.le_trans I2.ok.bsz (Nat.le_trans I2.ok.above (Nat.le_of_lt I2.lt))
    · rcases (hfp b hb).2.2.2.1 with z | z
      · exact I2.ok.noex b o e z
      · exact absurd (Nat.lt_of_lt_of_le (Heap.lt_size e) (Nat.le_trans I2.ok.bsz z)) (Nat.lt_irrefl _)
    · rcases List.mem_cons.mp (I2.stkSub b hf) with z | z
      · exact (hfp b hb).2.1 z
      · exact (hfp b hb).2.2.1 z
  have hCn:H2 C=none:=I2.hok.fresh (by rw [hC];exact Nat.le_refl _)
  refine ⟨ok',rfl,I2.bare,Un.kept hsb,⟨_,hn,fun i x v e1 e2 e3=>?_⟩,fun x c e=>?_,hCn,fun x c e=>I2.freeC x c (cl1 x c e),fun p hp=>(by cases hp),I2.hok.kept hsb,?_⟩
  · obtain ⟨hi,j,hj,hv⟩:=capSt_get e2
    have e1:(own++caps.map fun j=>X.N.getD j Str.empty)[i]?=some x:=e1
    rw [List.getElem?_append_right (by rw [hown];exact hi),List.getElem?_map,hown,hj] at e1
    have e1:X.N.getD j Str.empty=x:=Option.some.inj e1
    obtain ⟨y,hy,hfree,hout⟩:=hcap.get (List.mem_of_getElem? hj)
    rw [List.getD_eq_getElem?_getD,hy] at e1
    have e1:y=x:=e1
    subst e1
    obtain ⟨m,hm,hl⟩:=I2.loc
    obtain ⟨u,r,l⟩:=hl j y v hy hv (.inr hout)
    refine ⟨u,r,.inr ⟨?_,?_⟩⟩
    · have:=lookup_relabel_free (env:=X.env) hfree
      show (relabel scope X.env).names.lookup y=some .cell∨(relabel scope X.env).names.lookup y=some .free
      unfold relabel
      rw [this]
      split
      · exact .inl rfl
      · exact .inr rfl
    · obtain ⟨c,hc⟩:=cl2 y (mem_of_lookupN hfree)
      refine ⟨c,hc,?_⟩
      rcases l with ⟨k,_⟩ | ⟨_,c',hc',hcell⟩
      · have k:X.env.scope.names.lookup y=some .local:=k
        rcases hout with z | z<;>(rw [k] at z;cases z)
      · rw [cl1 y c hc] at hc'
        cases hc'
        obtain ⟨o,ho,hd⟩:=hcell
        exact ⟨o,hsb _ _ ho,hd⟩
  · obtain ⟨v,o,ho,hd⟩:=I2.cell x c (cl1 x c e)
    exact ⟨v,o,hsb _ _ ho,hd⟩
  · show (capSt n caps σ).length=(own++caps.map fun j=>X.N.getD j Str.empty).length
    unfold capSt
    rw [List.length_append,List.length_append,List.length_replicate,List.length_map,List.length_map,hown]
theorem comp_core {n:Nat} {tg iter elt:Expr} {ifs:List Expr} {pos:Pos} {it:Addr} {fp:List Addr} {tn:Nat→Heap→Prop} {J:It} {cl:List (Str × Addr)} {g:TG} {tt:TT} {te:TE} {E:Value→Shared→Prop} {RR:Value→Addr→Result→Shared→Prop} {Q:VK}
    (hc:X.calm=true) (I2:Inv X pins σ H2 s2) (T:Turn X.prog X.w X.K tg J fp it tn) (st2:tn 0 s2.heap) (f2:∀ b∈fp,FpOk X pins H2 b)
    (hok:compOk scope X.env.scope=true) (hcap:capOk X scope caps) (hown:own.length=n) (hgo:gOwn n g)
    (cl1:∀ y c,cl.lookup y=some c→X.env.cells.lookup y=some c) (cl2:∀ y,(y,NameKind.free)∈scope.names→∃ c,cl.lookup y=some c)
    (hg:∀ C s₃ H₃,PG (compX X scope own caps cl C s₃ H₃ fp) tg g) (ht:∀ C s₃ H₃,PTs (compX X scope own caps cl C s₃ H₃ fp) ifs tt) (he:∀ C s₃ H₃,PE (compX X scope own caps cl C s₃ H₃ fp) elt te)
    (h:∀ D,H2 D=none→∃ W:Nat→Nat→Hp→Prop,(∃ m,W 0 m (upd H2 D (.lst [])))∧∀ i m H2,W i m H2 →
      (J.stop i H2∧Q (.ref D) H2)∨(J.go i H2∧∀ x H3,J.yld i H2 x H3→g x (capSt n caps σ) H3 fun σ4 H4=>tt σ4 H4 fun b H5 =>
        if b=true then te σ4 H5 fun y H6=>∃ xs,H6 D=some (.lst xs)∧xs.length<sizeLine∧∃ m',m'<m∧W (i+1) m' (upd H6 D (.lst (xs++[y]))) else ∃ m',m'<m∧W (i+1) m' H5))
    (hRR:∀ D C s' H' m,s'.heap.Ns C m→Inv X pins σ H' s'→FpOk X pins H' C→Q (.ref D) H'→RR (.ref D) C (.ok .next) s') :
    wpAny (model X.prog X.w) X.A (newList []) (fun acc s₃=>wpAny (model X.prog X.w) X.A (newFunctionEnv scope X.env.globals cl [] X.env.qual none .none (some X.env)) (fun cenv s₄ =>
      codeAny (model X.prog X.w) X.A (.compStart (.ListComp elt [⟨tg,iter,ifs,0⟩] scope pos) 0 (.ref it) acc { cenv with scope:=relabel scope X.env }) (RR acc cenv.locals) s₄) E s₃) E s2:=by
  refine wpAny_newList (items:=[]) (wpAny_newFunctionEnv (cok_cell hok) (by intro y hy;simp at hy) (fun h₁ hns₁ hsb₁=>?_) (cok_kind hok)) (by show 0≤sizeLine;decide)
  obtain ⟨W,⟨m0,w0⟩,turn⟩:=h s2.heap.objs.size I2.fresh
  have I3:Inv X pins σ (upd H2 s2.heap.objs.size (.lst [])) { s2 with heap:=s2.heap.push { cls:=.type "list",data:=.seq ([]:List Value).toArray } }:=I2.lnew (t':=s2.toks) .nil (by show 0≤sizeLine;decide)
  generalize hs3:({ s2 with heap:=s2.heap.push { cls:=.type "list",data:=.seq ([]:List Value).toArray } }:Shared)=s₃ at *
  have e3:s₃.heap.objs.size=s2.heap.objs.size+1:=by rw [← hs3];exact Heap.size_push _ _
  have k23:∀ b o,s2.heap.get? b=some o→s₃.heap.get? b=some o:=fun b o e=>by rw [← hs3];exact Heap.get?_push_of_some _ e
  have hold:∀ b o,s₃.heap.get? b=some o→h₁.get? b=some o:=fun b o e=>(hsb₁.2 b (Nat.ne_of_lt (Heap.lt_size e))).trans (Heap.get?_push_of_some _ e)
  have lt2:∀ b∈fp,b<s2.heap.objs.size:=fun b hb=>by
    obtain ⟨o,e,_⟩:=T.obj _ _ st2 b hb
    exact Heap.lt_size e
  have f3:∀ b∈fp,FpOk X pins (upd H2 s2.heap.objs.size (.lst [])) b:=fun b hb=>by
    obtain ⟨z,r⟩:=f2 b hb
    exact ⟨by rw [upd_ne (Nat.ne_of_lt (lt2 b hb))];exact z,r⟩
  have tn1:tn 0 h₁:=T.keep _ _ _ st2 fun b hb o e=>hold b o (k23 b o e)
  have I4:=Inv.comp (own:=own) (caps:=caps) (n:=n) (fp:=fp) (cl:=cl) (h4:=h₁) (tk:=s₃.toks+([]:List (Str × Value)).length) I3 hok hcap hown cl1 cl2 f3 (fun b hb=>by rw [e3];exact Nat.lt_succ_of_lt (lt2 b hb)) rfl (by simpa using hns₁) hold
  have hXok:=I4.ok
  have loop:codeAny (model X.prog X.w) X.A (.compLoop (.ListComp elt [⟨tg,iter,ifs,0⟩] scope pos) 0 (.ref it) (.ref s2.heap.objs.size) (compEnvC scope cl s₃.heap.objs.size X.env)) (RR (.ref s2.heap.objs.size) s₃.heap.objs.size) { s₃ with heap:=h₁,toks:=s₃.toks+([]:List (Str × Value)).length }:=by
    generalize hX:compX X scope own caps cl s₃.heap.objs.size s₃ (upd H2 s2.heap.objs.size (.lst [])) fp=X' at I4 hXok
    have eP:X'.prog=X.prog:=by rw [← hX];rfl
    have eW:X'.w=X.w:=by rw [← hX];rfl
    have eK:X'.K=X.K:=by rw [← hX];rfl
    have eA:X'.A=X.A:=by rw [← hX];rfl
    have eC:X'.calm=true:=by rw [← hX];exact hc
    have eE:X'.env=compEnvC scope cl s₃.heap.objs.size X.env:=by rw [← hX];rfl
    have eL:X'.env.locals=s₃.heap.objs.size:=by rw [eE];rfl
    have eX:X'.xe=fun _ _=>False:=by rw [← hX];rfl
    have ePn:X'.pn=[]:=by rw [← hX];rfl
    have eEx:X'.ex=fp:=by rw [← hX];rfl
    have eFs:X'.fs=frs X.stack:=by rw [← hX];rfl
    have hg':=hg s₃.heap.objs.size s₃ (upd H2 s2.heap.objs.size (.lst []))
    have ht':=ht s₃.heap.objs.size s₃ (upd H2 s2.heap.objs.size (.lst []))
    have he':=he s₃.heap.objs.size s₃ (upd H2 s2.heap.objs.size (.lst []))
    have eS0:X'.s₀=s₃:=by rw [← hX];rfl
    have eH0:X'.H₀=upd H2 s2.heap.objs.size (.lst []):=by rw [← hX];rfl
    rw [hX] at hg' ht' he'
    have fpOk:∀ {H':Hp} (b:Addr),b∈fp→H' b=none→FpOk X' [] H' b:=fun b hb hn=>by
      refine ⟨hn,(hXok.exf b (eEx ▸ hb)).1,hXok.exfs b (eEx ▸ hb),.inl (eEx ▸ hb),(hXok.exf b (eEx ▸ hb)).2,fun p hp=>?_⟩
      rw [ePn] at hp
      cases hp
    rw [← eP,← eW,← eA,← eE]
    refine compLoop_any (fun n' s'=>∃ i H',Inv X' [] (capSt n caps σ) H' s'∧tn i s'.heap∧(∀ b∈fp,H' b=none)∧W i n' H') ?_ m0 ⟨0,_,I4,tn1,fun b hb=>(f3 b hb).1,w0⟩
    rintro k s5 ⟨i,H5,I5,t5,fr5,w5⟩
    have weaken:∀ {σ':St} {H':Hp} {s':Shared} {pl:List (Addr × Obj)},Inv X' pl σ' H' s'→σ'.length=(capSt n caps σ).length→σ'.drop n=(capSt n caps σ).drop n→Inv X' [] (capSt n caps σ) H' s':=fun {σ' H' s' pl} I' hl hd=>by
      have I'':Inv X' [] σ' H' s':=I'.pins_of fun p hp=>by cases hp
      refine I''.weak hl.symm fun j v e=>?_
      have hj:=(capSt_get e).1
      have q1:(σ'.drop n)[j-n]?=σ'[j]?:=by rw [List.getElem?_drop];congr 1;omega
      have q2:((capSt n caps σ).drop n)[j-n]?=(capSt n caps σ)[j]?:=by rw [List.getElem?_drop];congr 1;omega
      rw [← q1,hd,q2]
      exact e
    rcases turn i k H5 w5 with ⟨stop,qn⟩ | ⟨go,step⟩
    · have z:=T.done X' eP eW eK eC i [] s5 (capSt n caps σ) H5 (fun _ _=>False) I5 (fun b hb=>fpOk b hb (fr5 b hb)) t5 stop
      rw [← eP,← eW] at z
      refine thn z fun r s6 ⟨hr,I6⟩=>?_
      subst hr
      obtain ⟨m,hm,_⟩:=I6.loc
      have ub:Un (frs X.stack) fp (upd H2 s2.heap.objs.size (.lst [])) H5 s₃.heap s6.heap:=by
        have z:=I6.base
        rw [eFs,eEx,eS0,eH0] at z
        exact z
      have u23:Un (frs X.stack) fp H2 (upd H2 s2.heap.objs.size (.lst [])) s2.heap s₃.heap:=Un.laid k23 (Nat.le_refl _) I2.fresh
      have os6:s6.os=s2.os:=by
        rw [I6.os,eS0,← hs3]
      have hokk:HOk X.prog X.w H5 s6.heap:=by
        have z:=I6.hok
        rw [eP,eW] at z
        exact z
      have Iend:Inv X pins σ H5 s6:=I2.call' os6 (u23.trans ub) hokk I6.bare fun b hb=>⟨(f2 b hb).2.2.2.1,(f2 b hb).2.1,(f2 b hb).2.2.2.2.1,(f2 b hb).2.2.2.2.2⟩
      have hCn:H5 s₃.heap.objs.size=none:=by
        have z:=I6.free
        rw [eL] at z
        exact z
      rw [eL] at hm
      exact hRR _ _ s6 H5 m hm Iend (I3.fpOk (Nat.le_refl _) hCn) qn
    · have z:=T.item X' eP eW eK eC i [] s5 (capSt n caps σ) H5 (fun _ _=>False) I5 (fun b hb=>fpOk b hb (fr5 b hb)) t5 go
      rw [← eP,← eW] at z
      refine thn z fun r s6 ⟨u,hr,h6⟩=>?_
      subst hr
      refine thn h6 fun _ s7 ⟨x,H7,I7,r7,y7,t7,fr7⟩=>?_
      have I7':=I7.pinned (fun b hb=>fpOk b hb (fr7 b hb)) (T.obj _ _ t7)
      have pinD:∀ {σ':St} {H':Hp} {s':Shared},Inv X' ([]++pinsAt fp s7.heap) σ' H' s'→tn (i+1) s'.heap∧∀ b∈fp,H' b=none:=fun {σ' H' s'} I'=>by
        have pin:∀ b∈fp,∀ o,s7.heap.get? b=some o→s'.heap.get? b=some o∧H' b=none:=fun b hb o e=>by
          have z:=I'.pin (b,o) (List.mem_append_right _ (List.mem_append_right _ (mem_pinsAt hb e)))
          exact ⟨z.1,z.2.1⟩
        refine ⟨T.keep _ _ _ t7 fun b hb o e=>(pin b hb o e).1,fun b hb=>?_⟩
        obtain ⟨o,e,_⟩:=T.obj _ _ t7 b hb
        exact (pin b hb o e).2
      have xf:∀ {α:Type} {t:Sem α} {Q':α→Shared→Prop} {s':Shared},wpAny (model X'.prog X'.w) X'.A t Q' X'.xe s'→wpAny (model X'.prog X'.w) X'.A t Q' (fun _ _=>False) s':=fun z=>by rw [eX] at z;exact z
      refine thn (xf (hg' _ s7 (capSt n caps σ) H7 x u _ I7' r7 (hgo _ _ _ _ (step x H7 y7)))) fun _ s8 ⟨σ8,H8,I8,⟨l8,d8⟩,q8⟩=>?_
      refine thn (xf (ht' _ s8 σ8 H8 _ I8 q8)) fun b s9 ⟨H9,I9,q9⟩=>?_
      cases b with
      | false =>
        rw [if_neg Bool.false_ne_true]
        obtain ⟨m',hm,w9⟩:=(show ∃ m',m'<k∧W (i+1) m' H9 by simpa using q9)
        obtain ⟨t9,fr9⟩:=pinD I9
        exact ⟨m',hm,i+1,H9,weaken I9 l8 d8,t9,fr9,w9⟩
      | true =>
        rw [if_pos rfl]
        rw [if_pos rfl] at q9
        refine thn (xf (he' _ s9 σ8 H9 _ I9 q9)) fun v s10 ⟨y,H10,I10,r10,xs,hD,hlen,m',hm,w10⟩=>?_
        refine thn (xf (mt_append _ s10 σ8 H10 (.ref s2.heap.objs.size) [y] (.ref s2.heap.objs.size) [v] (fun _ H'=>H'=upd H10 s2.heap.objs.size (.lst (xs++[y]))) I10 rfl (.cons r10 .nil) ⟨_,xs,y,rfl,rfl,hD,hlen,rfl⟩)) fun _ s11 ⟨_,H11,I11,_,e11⟩=>?_
        subst e11
        obtain ⟨t11,fr11⟩:=pinD I11
        exact ⟨m',hm,i+1,_,weaken I11 l8 d8,t11,fr11,w10⟩
  exact codeAny_compStart_list loop (T.self _ 0 _ _ _ tn1 loop)
theorem Inv.closure (I:Inv X pins σ H2 s2)(hok:compOk scope X.env.scope=true):∃ cl,closureFor scope X.env=pure cl∧(∀ y c,cl.lookup y=some c→X.env.cells.lookup y=some c)∧∀ y,(y,NameKind.free)∈scope.names→∃ c,cl.lookup y=some c :=
  closure_of fun z hz e=>I.ok.has z.1 (cok_free hok z hz e)
end
section
variable {X:Cx}{tg iter elt:Expr}{ifs:List Expr}{scope:Scope}{pos:Pos}{wi:TI}{g:TG}{tt:TT}{te:TE}{n:Nat}
theorem pe_comp (own:List Str)(caps:List Nat)(hc:X.calm=true)(hi:PI X tg iter wi)(hg:∀ cl C s₃ H₃ fp,PG (compX X scope own caps cl C s₃ H₃ fp) tg g)(ht:∀ cl C s₃ H₃ fp,PTs (compX X scope own caps cl C s₃ H₃ fp) ifs tt)
    (he:∀ cl C s₃ H₃ fp,PE (compX X scope own caps cl C s₃ H₃ fp) elt te) (hcap:capOk X scope caps) (hgo:gOwn own.length g) (hok:compOk scope X.env.scope=true:=by rfl)
    (hs:∀ x,foldedSetIterable iter X.env x=pure x:=by intro _;rfl):PE X (.ListComp elt [⟨tg,iter,ifs,0⟩] scope pos) (tComp own.length caps wi g tt te):=by
  intro pins s σ H Q I h
  obtain ⟨cl,hcl,cl1,cl2⟩:=I.closure hok
  rw [eval_ListComp]
  refine wpAny_comprehension_free (use:=none) rfl hs hcl (cok_kind hok) (cok_loc hok) (thn (hi pins s σ H _ I h) fun v s1 h1=>thn h1 fun itv s2 h2=>?_)
  obtain ⟨it,fp,tn,J,H2,e,I2,T,st2,f2,h3⟩:=h2
  subst e
  refine comp_core (RR:=fun acc C=>compPost (model X.prog X.w) X.A X.xe none (EP X pins σ Q) acc C) (own:=own) (caps:=caps) (n:=own.length) (Q:=Q) hc I2 T st2 f2 hok hcap rfl hgo cl1 cl2 (fun C s₃ H₃=>hg cl C s₃ H₃ fp) (fun C s₃ H₃=>ht cl C s₃ H₃ fp) (fun C s₃ H₃=>he cl C s₃ H₃ fp) h3 ?_
  intro D C s' H' m hm I' hC q
  refine ⟨m,hm,fun h' hsb=>⟨.ref D,H',?_,rfl,q⟩⟩
  exact I'.turned (it:=C) (t':=s'.toks) (fun b o hb e=>(hsb.2 b hb).trans e) hC.1 hC.2.1 hC.2.2.2.1 hC.2.2.2.2.1 hC.2.2.2.2.2
theorem ps_setcomp {i:Nat}{x:Str}{pos' spos:Pos}(own:List Str)(caps:List Nat)(hN:X.N.Nodup)(hx0:X.N[i]?=some x)(hx:Loc X.env.scope x)(hc:X.calm=true)(hi:PI X tg iter wi)(hg:∀ cl C s₃ H₃ fp,PG (compX X scope own caps cl C s₃ H₃ fp) tg g)(ht:∀ cl C s₃ H₃ fp,PTs (compX X scope own caps cl C s₃ H₃ fp) ifs tt)
    (he:∀ cl C s₃ H₃ fp,PE (compX X scope own caps cl C s₃ H₃ fp) elt te) (hcap:capOk X scope caps) (hgo:gOwn own.length g) (hok:compOk scope X.env.scope=true:=by rfl)
    (hs:∀ x,foldedSetIterable iter X.env x=pure x:=by intro _;rfl) (hsw:swapsWith (.ListComp elt [⟨tg,iter,ifs,0⟩] scope pos) (some (.Name x pos')) spos.line X.env=pure true:=by rfl)
    (hf:X.fn x=true∨X.env.scope.names.lookup x=some .local:=by first | exact .inl rfl | exact .inr rfl | assumption):PS X (.Assign [.Name x pos'] (.ListComp elt [⟨tg,iter,ifs,0⟩] scope pos) spos) (tAsg (tComp own.length caps wi g tt te) (gName i)):=by
  intro pins s σ H D I h
  obtain ⟨cl,hcl,cl1,cl2⟩:=I.closure hok
  rw [exec_Assign_Name_used _ _ _ _ hsw]
  refine wpAny_bind (wpAny_standAt (wpAny_bind ?_))
  show wpAny _ _ (do let _ ← comprehension (.ListComp elt [⟨tg,iter,ifs,0⟩] scope pos) scope X.env _ (newList []) false (eval iter X.env) (some (assign (.Name x pos') X.env))) _ _ s
  refine wpAny_bind (wpAny_mono (wpAny_comprehension_free (use:=some (assign (.Name x pos') X.env)) (Q:=fun _ s'=>SP X pins D .next s') rfl hs hcl (cok_kind hok) (cok_loc hok)
    (thn (hi pins s σ H _ I h) fun v s1 h1=>thn h1 fun itv s2 h2=>?_)) (fun _ s' hq=>wpAny_pure (wpAny_pure hq)) fun _ _ e=>e)
  obtain ⟨it,fp,tn,J,H2,e,I2,T,st2,f2,h3⟩:=h2
  subst e
  refine comp_core (RR:=fun acc C=>compPost (model X.prog X.w) X.A X.xe (some (assign (.Name x pos') X.env)) (fun _ s'=>SP X pins D .next s') acc C) (own:=own) (caps:=caps) (n:=own.length) (Q:=fun x H1=>gName i x σ H1 D.nx) hc I2 T st2 f2 hok hcap rfl hgo cl1 cl2 (fun C s₃ H₃=>hg cl C s₃ H₃ fp) (fun C s₃ H₃=>ht cl C s₃ H₃ fp) (fun C s₃ H₃=>he cl C s₃ H₃ fp) h3 ?_
  intro A' C s' H' m hm I' hC q
  obtain ⟨o,es,ep,ho,hd,r⟩:=id hm
  have I'':Inv X (pins++[(C,o)]) σ H' s':=I'.pins_of fun p hp=>by
    rcases List.mem_append.mp hp with z | z
    · exact I'.pin p (List.mem_append_right _ z)
    · have e:p=(C,o):=by simpa using z
      subst e
      exact ⟨ho,hC.1,hC.2.1,hC.2.2.1,fun v e=>by rw [hd] at e;cases e⟩
  refine thn (pg_name hN hx0 hx hf _ s' σ H' (.ref A') (.ref A') _ I'' rfl q) fun _ s2' ⟨σ2,H3',I3,q3⟩=>?_
  have p3:=I3.pin (C,o) (List.mem_append_right _ (List.mem_append_right _ (by simp)))
  refine ⟨m,⟨o,es,ep,p3.1,hd,r⟩,fun h' hsb=>⟨σ2,H3',?_,q3⟩⟩
  exact (I3.unpinned (pl:=[(C,o)])).turned (it:=C) (t':=s2'.toks) (fun b o hb e=>(hsb.2 b hb).trans e) p3.2.1 p3.2.2.1 hC.2.2.2.1 hC.2.2.2.2.1 hC.2.2.2.2.2
end
end L2
namespace L2
open PySem PySem.Spec PyProof.Rows
theorem boot_isi:bootBuiltins "isinstance"=some (.builtin "isinstance"):=by decide +kernel
theorem boot_minB:bootBuiltins "min"=some (.builtin "min"):=by decide +kernel
theorem boot_maxB:bootBuiltins "max"=some (.builtin "max"):=by decide +kernel
section
variable {X:Cx}
def vOf:V→Option Value
  | .ty n=>some (.type n)
  | .ref a=>some (.ref a)
  | _=>none
def rIsi (K:PySem.W.Frag):List V→Hp→VK→Prop:=fun xs H Q=>∃ x y c t b,xs=[x,y]∧vOf y=some c∧TyOf K H x t∧PySem.W.kitOne K t c=some b∧Q (.bl b) H
theorem call_isi:CallR X (.builtin "isinstance") (rIsi X.K):=by
  intro pins s σ H xs us Q I r h
  obtain ⟨x,y,c,t,b,rfl,hy,ht,hk,q⟩:=h
  obtain ⟨u,v,rfl,ru,rv⟩:=r.two
  have ev:v=c:=by
    cases y with
    | ty n=>cases (show v=Value.type n from rv);exact Option.some.inj hy
    | ref a=>cases (show v=Value.ref a from rv);exact Option.some.inj hy
    | _=>cases hy
  subst ev
  exact isinst_ok I ru ht hk fun tk=>⟨.bl b,H,I.tok _,rfl,q⟩
def CShl (i j:Int):Prop:=0≤j∧j≤1000000∧i.natAbs<2^1000
end
def LoopJ (J:It)(g:TG)(tb:TS)(D:Ends)(σ:St)(H:Hp):Prop:=∃ W:Nat→Nat→St→Hp→Prop,(∃ m,W 0 m σ H)∧∀ i m σ H,W i m σ H →
  (J.stop i H∧D.nx σ H)∨(J.go i H∧∃ N:St→Hp→Prop,(∀ σ' H',N σ' H'→∃ m',m'<m∧W (i+1) m' σ' H')∧∀ x H',J.yld i H x H'→g x σ H' fun σ2 H2=>tb { D with nx:=N,ct:=N,bk:=D.nx } σ2 H2)
theorem tFor_ap {wi:TI}{g:TG}{tb:TS}{D:Ends}{σ:St}{H:Hp}:tFor wi g tb D σ H=wi σ H fun J H1=>LoopJ J g tb D σ H1:=rfl
theorem loopR {lo:Int}{n:Nat}{g:TG}{tb:TS}{D:Ends}{σ:St}{H:Hp}(Pv:Nat→St→Hp→Prop)(h0:Pv 0 σ H)
    (hs:∀ i σ H,i<n→Pv i σ H→g (.int (lo+i)) σ H fun σ2 H2=>tb { D with nx:=Pv (i+1),ct:=Pv (i+1),bk:=D.nx } σ2 H2) (hd:∀ σ H,Pv n σ H→D.nx σ H):LoopJ (Itr lo n) g tb D σ H:=for_range Pv h0 hs hd
theorem loopL {K:PySem.W.Frag}{a:Addr}{xs:List V}{g:TG}{tb:TS}{D:Ends}{σ:St}{H:Hp}(Pv:Nat→St→Hp→Prop)(h0:Pv 0 σ H)(hl:∀ i σ H,i≤xs.length→Pv i σ H→SqL K H a xs)
    (hs:∀ i x σ H,xs[i]?=some x→Pv i σ H→g x σ H fun σ2 H2=>tb { D with nx:=Pv (i+1),ct:=Pv (i+1),bk:=D.nx } σ2 H2) (hd:∀ σ H,Pv xs.length σ H→D.nx σ H):LoopJ (Itl K a) g tb D σ H:=for_list Pv h0 hl hs hd
def CompJ (J:It) (n:Nat) (caps:List Nat) (g:TG) (tt:TT) (te:TE) (σ:St) (H1:Hp) (Q:VK):Prop:=∀ D,H1 D=none→∃ W:Nat→Nat→Hp→Prop,(∃ m,W 0 m (upd H1 D (.lst [])))∧∀ i m H2,W i m H2 →
  (J.stop i H2∧Q (.ref D) H2)∨(J.go i H2∧∀ x H3,J.yld i H2 x H3→g x (capSt n caps σ) H3 fun σ4 H4=>tt σ4 H4 fun b H5 =>
    if b=true then te σ4 H5 fun y H6=>∃ xs,H6 D=some (.lst xs)∧xs.length<sizeLine∧∃ m',m'<m∧W (i+1) m' (upd H6 D (.lst (xs++[y]))) else ∃ m',m'<m∧W (i+1) m' H5)
theorem tComp_ap {n:Nat}{caps:List Nat}{wi:TI}{g:TG}{tt:TT}{te:TE}{σ:St}{H:Hp}{Q:VK}:tComp n caps wi g tt te σ H Q=wi σ H fun J H1=>CompJ J n caps g tt te σ H1 Q:=rfl
theorem compPure {J:It} {m n:Nat} {caps:List Nat} {g:TG} {tt:TT} {te:TE} {σ:St} {H1:Hp} {Q:VK} (x:Nat→V) (p:Nat→Bool) (f:Nat→V) (hn:n≤1000000)
    (hstop:∀ H2,Same H1 H2→J.stop n H2) (hgo:∀ i H2,i<n→Same H1 H2→J.go i H2) (hy:∀ i H2 v H3,i<n→Same H1 H2→J.yld i H2 v H3→v=x i∧H3=H2)
    (hg:∀ i H2 R,i<n→Same H1 H2→(∀ σ4,σ4=(capSt m caps σ).set 0 (some (x i))→R σ4 H2)→g (x i) (capSt m caps σ) H2 R)
    (ht:∀ i H2 R,i<n→Same H1 H2→R (p i) H2→tt ((capSt m caps σ).set 0 (some (x i))) H2 R)
    (he:∀ i H2 R,i<n→p i=true→Same H1 H2→R (f i) H2→te ((capSt m caps σ).set 0 (some (x i))) H2 R)
    (hq:∀ D,H1 D=none→Q (.ref D) (upd H1 D (.lst (((List.range n).filter p).map f)))):CompJ J m caps g tt te σ H1 Q:=by
  intro D hD
  have same:∀ l,Same H1 (upd H1 D (.lst l)):=fun l b o e=>by rw [upd_ne (ne_of_none e hD)];exact e
  refine ⟨fun i k H2=>k=n-i∧i≤n∧H2=upd H1 D (.lst (((List.range i).filter p).map f)),⟨n,rfl,Nat.zero_le _,rfl⟩,?_⟩
  rintro i k H2 ⟨rfl,hi,rfl⟩
  by_cases hlt:i<n
  · refine .inr ⟨hgo i _ hlt (same _),fun v H3 y=>?_⟩
    obtain ⟨rfl,rfl⟩:=hy i _ v H3 hlt (same _) y
    refine hg i _ _ hlt (same _) fun σ4 e4=>?_
    subst e4
    refine ht i _ _ hlt (same _) ?_
    have step:(List.range (i+1)).filter p=(List.range i).filter p++if p i=true then [i] else []:=by
      rw [List.range_succ,List.filter_append]
      congr 1
      cases hp:p i<;>simp [hp]
    cases hp:p i with
    | true =>
      rw [if_pos rfl]
      refine he i _ _ hlt hp (same _) ⟨_,upd_same,?_,n-(i+1),by omega,rfl,hlt,?_⟩
      · rw [List.length_map]
        refine Nat.lt_of_le_of_lt (List.length_filter_le _ _) ?_
        rw [List.length_range,sizeLine_eq]
        omega
      · rw [upd_upd,step,hp,if_pos rfl,List.map_append]
        rfl
    | false =>
      rw [if_neg Bool.false_ne_true]
      refine ⟨n-(i+1),by omega,rfl,hlt,?_⟩
      rw [step,hp,if_neg Bool.false_ne_true,List.append_nil]
  · have e:i=n:=by omega
    subst e
    exact .inl ⟨hstop _ (same _),hq D hD⟩
theorem range_filter_map {α β:Type}(p:α→Bool)(f:α→β):∀ (xs:List α) (P:Nat→Bool) (F:Nat→β),(∀ i x,xs[i]?=some x→P i=p x∧F i=f x)→((List.range xs.length).filter P).map F=(xs.filter p).map f
  | [],_,_,_=>rfl
  | x::r,P,F,h=>by
    have e:List.range (x::r).length=0::(List.range r.length).map Nat.succ:=by rw [List.length_cons,List.range_succ_eq_map]
    have ih:=range_filter_map p f r (P ∘ Nat.succ) (F ∘ Nat.succ) fun i y hy=>h (i+1) y (by simpa using hy)
    obtain ⟨h1,h2⟩:=h 0 x rfl
    rw [e,List.filter_cons,List.filter_cons,h1,List.filter_map]
    split
    · rw [List.map_cons,List.map_cons,h2,List.map_map,ih]
    · rw [List.map_map,ih]
theorem compL {K:PySem.W.Frag}{a:Addr}{xs:List V}{m:Nat}{caps:List Nat}{tt:TT}{te:TE}{σ:St}{H1:Hp}{Q:VK}(p:V→Bool)(f:V→V)(hS:SqL K H1 a xs)(hn:xs.length≤1000000)
    (ht:∀ x H2 R,x∈xs→Same H1 H2→R (p x) H2→tt ((capSt m caps σ).set 0 (some x)) H2 R)
    (he:∀ x H2 R,x∈xs→p x=true→Same H1 H2→R (f x) H2→te ((capSt m caps σ).set 0 (some x)) H2 R)
    (hq:∀ D,H1 D=none→Q (.ref D) (upd H1 D (.lst ((xs.filter p).map f)))):CompJ (Itl K a) m caps (gName 0) tt te σ H1 Q:=by
  have get:∀ i,i<xs.length→xs[i]?=some (xs.getD i .non):=fun i hi=>by rw [List.getD_eq_getElem?_getD,List.getElem?_eq_getElem hi];rfl
  have mem:∀ i,i<xs.length→xs.getD i .non∈xs:=fun i hi=>List.mem_of_getElem? (get i hi)
  refine compPure (fun i=>xs.getD i .non) (fun i=>p (xs.getD i .non)) (fun i=>f (xs.getD i .non)) hn (fun H2 s=>⟨xs,s.seq hS,Nat.le_refl _⟩) (fun i H2 hi s=>⟨xs,_,s.seq hS,get i hi⟩)
    (fun i H2 v H3 hi s y=>⟨?_,y.1⟩) (fun i H2 R hi _ h=>h _ rfl) (fun i H2 R hi s h=>ht _ H2 R (mem i hi) s h) (fun i H2 R hi hp s h=>he _ H2 R (mem i hi) hp s h) (fun D hD=>?_)
  · have:=y.2 xs (s.seq hS)
    rw [get i hi] at this
    exact (Option.some.inj this).symm
  · have:=range_filter_map p f xs (fun i=>p (xs.getD i .non)) (fun i=>f (xs.getD i .non)) fun i x hx=>by
      have:xs.getD i .non=x:=by rw [List.getD_eq_getElem?_getD,hx];rfl
      rw [this]
      exact ⟨rfl,rfl⟩
    rw [this]
    exact hq D hD
section
variable {D:Ends}{σ:St}{H:Hp}{Q:VK}{QT:Bool→Hp→Prop}{QA:List V→Hp→Prop}{ta tb tc:TE}{t u:TS}{tA tB':TT}{te:TE}{tl:TA}{r r':R2}
theorem tSeq_ap:tSeq t u D σ H=t { D with nx:=u D } σ H:=rfl
theorem tNext_ap:tNext D σ H=D.nx σ H:=rfl
theorem tAsg_ap {g:TG}:tAsg te g D σ H=te σ H fun x H1=>g x σ H1 D.nx:=rfl
theorem gName_ap {i:Nat}{v:V}{R:St→Hp→Prop}:gName i v σ H R=R (σ.set i (some v)) H:=rfl
theorem tVar_ap {i:Nat}:tVar i σ H Q=∃ v,σ[i]?=some (some v)∧Q v H:=rfl
theorem tC_ap {v:V}:tC v σ H Q=Q v H:=rfl
theorem tOp_ap:tOp r ta tb σ H Q=ta σ H fun x H1=>tb σ H1 fun y H2=>r x y H2 Q:=rfl
theorem tUn_ap {r:V→Hp→VK→Prop}:tUn r ta σ H Q=ta σ H fun x H1=>r x H1 Q:=rfl
theorem rI_ap {C:Int→Int→Prop}{g:Int→Int→V}{x y:V}:rI C g x y H Q=∃ i j,x=.int i∧y=.int j∧C i j∧Q (g i j) H:=rfl
theorem rI0_ap {g:Int→Int→V}{x y:V}:rI0 g x y H Q=∃ i j,x=.int i∧y=.int j∧Q (g i j) H:=rfl
theorem rU_ap {g:Int→V}{x:V}:rU g x H Q=∃ i,x=.int i∧Q (g i) H:=rfl
theorem rEq_ap {x y:V}:rEq x y H Q=(scal x y=true∧Q (.bl (decide (x=y))) H):=rfl
theorem rNe_ap {x y:V}:rNe x y H Q=(scal x y=true∧Q (.bl (!decide (x=y))) H):=rfl
theorem scal_ii {i j:Int}:scal (.int i) (.int j)=true:=rfl
theorem scal_bb {i j:Bool}:scal (.bl i) (.bl j)=true:=rfl
theorem scal_ss {i j:Str}:scal (.str i) (.str j)=true:=rfl
theorem tRet_ap:tRet te D σ H=te σ H D.rt:=rfl
theorem tDrop_ap:tDrop te D σ H=te σ H fun _ H1=>D.nx σ H1:=rfl
theorem tIfS_ap:tIfS tA t u D σ H=tA σ H fun b H1=>if b=true then t D σ H1 else u D σ H1:=rfl
theorem tTest_ap:tTest te σ H QT=te σ H fun x H'=>∃ k,x=.bl k∧QT k H':=rfl
theorem tB_ap:tB te σ H QT=te σ H fun x H1=>∃ c,x=.bl c∧QT c H1:=rfl
theorem tAnd_ap:tAnd tA tB' σ H QT=tA σ H fun c H1=>if c=true then tB' σ H1 QT else QT false H1:=rfl
theorem tOr_ap:tOr tA tB' σ H QT=tA σ H fun c H1=>if c=true then QT true H1 else tB' σ H1 QT:=rfl
theorem tNot_ap:tNot tA σ H QT=tA σ H fun c H1=>QT (!c) H1:=rfl
theorem tAndV_ap:tAndV ta tb σ H Q=ta σ H fun x H1=>∃ c,x=.bl c∧if c=true then tb σ H1 Q else Q (.bl false) H1:=rfl
theorem tNotV_ap:tNotV ta σ H Q=ta σ H fun x H1=>∃ c,x=.bl c∧Q (.bl (!c)) H1:=rfl
theorem tCall_ap {sp:Sp}{dvs:List V}{E:XK}:tCall sp dvs E tl σ H Q=tl σ H fun vs H1=>sp (vs++dvs) H1 Q E:=rfl
theorem tNil_ap:tNil σ H QA=QA [] H:=rfl
theorem tCons_ap:tCons ta tl σ H QA=ta σ H fun x H1=>tl σ H1 fun xs H2=>QA (x::xs) H2:=rfl
theorem tTup_ap:tTup tl σ H Q=tl σ H fun xs H1=>xs.length≤sizeLine∧∀ p,H1 p=none→Q (.ref p) (upd H1 p (.tup xs)):=rfl
theorem tLst_ap:tLst tl σ H Q=tl σ H fun xs H1=>xs.length≤sizeLine∧∀ p,H1 p=none→Q (.ref p) (upd H1 p (.lst xs)):=rfl
theorem tCB_ap {r:List V→Hp→VK→Prop}:tCB r tl σ H Q=tl σ H fun vs H1=>r vs H1 Q:=rfl
theorem tBM_ap {K:PySem.W.Frag}{T:String}{r:V→List V→Hp→VK→Prop}:tBM K T r te tl σ H Q=te σ H fun x H1=>tyV K T x H1∧tl σ H1 fun xs H2=>r x xs H2 Q:=rfl
theorem tyV_int {K:PySem.W.Frag}{i:Int}:tyV K "int" (.int i) H:=rfl
theorem tyV_list {K:PySem.W.Frag}{p:Addr}:tyV K "list" (.ref p) H↔∃ xs,SqL K H p xs:=by
  unfold tyV
  simp
theorem rIxL_ap {K:PySem.W.Frag}{x y:V}:rIxL K x y H Q=∃ p xs i v,x=.ref p∧y=.int i∧SqL K H p xs∧atI xs i=some v∧Q v H:=rfl
theorem rIxT_ap {K:PySem.W.Frag}{x y:V}:rIxT K x y H Q=∃ p xs i v,x=.ref p∧y=.int i∧SqT K H p xs∧atI xs i=some v∧Q v H:=rfl
theorem rIxS_ap {x y:V}:rIxS x y H Q=∃ z i c,x=.str z∧y=.int i∧z.length≤sizeLine∧atI z.cps.toList i=some c∧Q (.str ⟨#[c]⟩) H:=rfl
theorem rAppend_ap {x:V}{vs:List V}:rAppend x vs H Q=∃ l xs y,x=.ref l∧vs=[y]∧H l=some (.lst xs)∧xs.length<sizeLine∧Q .non (upd H l (.lst (xs++[y]))):=rfl
theorem rCat_ap {x y:V}:rCat x y H Q=∃ l b xs zs,x=.ref l∧y=.ref b∧H l=some (.lst xs)∧H b=some (.lst zs)∧xs.length+zs.length≤sizeLine∧∀ p,H p=none→Q (.ref p) (upd H p (.lst (xs++zs))):=rfl
theorem iRng1_ap {R:It→Hp→Prop}:iRng1 tl σ H R=tl σ H fun vs H1=>∃ j:Int,vs=[.int j]∧-(2^62)≤j∧j<2^62∧R (Itr 0 j.toNat) H1:=rfl
theorem iList_ap {K:PySem.W.Frag}{R:It→Hp→Prop}:iList K te σ H R=te σ H fun x H1=>∃ a,x=.ref a∧(∃ xs,SqL K H1 a xs)∧R (Itl K a) H1:=rfl
theorem tNoTest_ap:tNoTest σ H QT=QT true H:=rfl
theorem rIsi_int {K:PySem.W.Frag}{i:Int}:rIsi K [.int i,.ty "int"] H Q↔Q (.bl true) H :=
  ⟨fun ⟨x,y,c,t,b,e,hy,ht,hk,q⟩=>by
    cases e
    cases hy
    cases ht
    cases hk
    exact q,fun q=>⟨_,_,_,_,true,rfl,rfl,.int i,rfl,q⟩⟩
theorem rIsi_intb {K:PySem.W.Frag}{i:Int}:rIsi K [.int i,.ty "bool"] H Q↔Q (.bl false) H :=
  ⟨fun ⟨x,y,c,t,b,e,hy,ht,hk,q⟩=>by
    cases e
    cases hy
    cases ht
    cases hk
    exact q,fun q=>⟨_,_,_,_,false,rfl,rfl,.int i,rfl,q⟩⟩
end
end L2
namespace L2
open PySem PySem.Spec PyProof.Rows
def FnAt (P:Program)(w:World)(K:PySem.W.Frag)(mg:Str→Option Value)(base:Heap)(x:Str)(ps:List Str)(k:Nat)(sp:Sp):Prop :=
  ∃ f fd,FnOk P w K mg base CX0 k f fd ps sp∧mg x=some (.ref f)∧PySem.W.keepIn K (.ref f)=true∧Binds K fd ps []
def DefAt (K:PySem.W.Frag)(mg:Str→Option Value)(x:Str)(st:Stmt)(ps:List Str):Prop:=∃ f fd,Fun K x x st f fd∧mg x=some (.ref f)∧Binds K fd ps []
section
variable {P:Program}{w:World}{K:PySem.W.Frag}{mg:Str→Option Value}{base:Heap}
theorem FnAt.of {x:Str}{st:Stmt}{N ps:List Str}{k:Nat}{sp:Sp}(d:DefAt K mg x st ps)(S:FnScope N ps (defScope st))(len:∀ vs H Q E,sp vs H Q E→vs.length=ps.length)
    (hbody:∀ (f:Addr) (cdv:Value) (A:Around) (outer:List Env) (s:Shared) (H:Hp) (vs:List V) (Q:VK) (E:XK),Room k (A.deeper (envOfC x (defScope st) s.heap.objs.size f cdv))→sp vs H Q E →
      ∃ t,PSs (cxOf CX0 P w K mg base N x (defScope st) f cdv A outer s H E).nox (defBody st) t∧t { nx:=fun _ H'=>Q .non H',rt:=Q } (start N vs) H):FnAt P w K mg base x ps (k+1) sp:=by
  obtain ⟨f,fd,F,m,b⟩:=d
  exact ⟨f,fd,F.ok S len (hbody f),m,F.kp,b⟩
theorem defAt_mk {h:Heap}{x:Str}{st:Stmt}{ps:List Str}{f:Addr}{oc:Value}{od an:Option Addr}{osl:Array (Option Value)}{kV doc pm cdv ct:Value}(X:K.In h)(G:h.Ns mainGlobals mg)(a:PySem.W.nsIn K mainGlobals x=some (some (.ref f)))
    (l:K.lookup f=some ⟨oc,od,.func (PySem.W.fnOf x x (defArgs st) (defBody st) (defScope st) .none kV doc pm an cdv ct),osl⟩) (c:PySem.W.codeIn K cdv x=true) (k:PySem.W.keepIn K (.ref f)=true)
    (hb:∀ (kV doc pm:Value) (an:Option Addr) (cdv ct:Value) (us:List Value),us.length=ps.length→bindArgs (PySem.W.fnOf x x (defArgs st) (defBody st) (defScope st) .none kV doc pm an cdv ct) ⟨us,[]⟩=pure (ps.zip us)):DefAt K mg x st ps :=
  ⟨f,_,fun_mk l c k,PySem.W.mg_of X G a,(fun_mk l c k).binds hb⟩
end
section
variable {X:Cx}{x:Str}{ps:List Str}{k:Nat}{sp:Sp}{e:Expr}{es:List Expr}{t:TA}{p pos:Pos}
theorem pe_callF (F:FnAt X.prog X.w X.K X.mg X.base x ps k sp)(hr:Room k X.A)(hg:Gl X x)(ha:PA X (e::es) t)
    (he:starEach (e::es) X.env=(false,eval e X.env)::starEach es X.env:=by rfl) (hdb:(x==("__debug__":Str))=false:=by decide) (hpl:(backTo pos (starEach es X.env)).any (·.1)=false:=by rfl):PE X (.Call (.Name x p) (e::es) [] pos) (tCall sp [] E0 t):=by
  obtain ⟨f,fd,G,m,kp,b⟩:=F
  exact pe_call G hr hg m kp b .nil pass0 ha hdb he hpl
end
section
variable {X:Cx}
def rLen (K:PySem.W.Frag):List V→Hp→VK→Prop:=fun xs H Q=>∃ p ys,xs=[.ref p]∧(SqL K H p ys∨SqT K H p ys)∧Q (.int ys.length) H
def rListOf (K:PySem.W.Frag):List V→Hp→VK→Prop:=fun xs H Q=>∃ p ys,xs=[.ref p]∧(SqL K H p ys∨SqT K H p ys)∧∀ l,H l=none→Q (.ref l) (upd H l (.lst ys))
theorem ix_listK (K:PySem.W.Frag)(h:X.K=K:=by rfl):IxR X (rIxL K):=h ▸ ix_list
theorem ix_tupK (K:PySem.W.Frag)(h:X.K=K:=by rfl):IxR X (rIxT K):=h ▸ ix_tup
theorem call_isiK (K:PySem.W.Frag)(h:X.K=K:=by rfl):CallR X (.builtin "isinstance") (rIsi K):=h ▸ call_isi
theorem call_lenK (K:PySem.W.Frag)(h:X.K=K:=by rfl):CallR X (.builtin "len") (rLen K):=by subst h;exact call_len_seq
theorem call_listK (K:PySem.W.Frag)(h:X.K=K:=by rfl):CallR X (.type "list") (rListOf K):=by subst h;exact call_list_of
theorem op_inK (K:PySem.W.Frag)(h:X.K=K:=by rfl):OpR X (compareOp .In) (rIn K false):=h ▸ op_in_seq
theorem op_notInK (K:PySem.W.Frag)(h:X.K=K:=by rfl):OpR X (compareOp .NotIn) (rIn K true):=h ▸ op_notIn_seq
theorem rLen_ap {K:PySem.W.Frag}{xs:List V}{H:Hp}{Q:VK}:rLen K xs H Q=∃ p ys,xs=[.ref p]∧(SqL K H p ys∨SqT K H p ys)∧Q (.int ys.length) H:=rfl
theorem rListOf_ap {K:PySem.W.Frag}{xs:List V}{H:Hp}{Q:VK}:rListOf K xs H Q=∃ p ys,xs=[.ref p]∧(SqL K H p ys∨SqT K H p ys)∧∀ l,H l=none→Q (.ref l) (upd H l (.lst ys)):=rfl
theorem rIn_ap {K:PySem.W.Frag}{neg:Bool}{x y:V}{H:Hp}{Q:VK}:rIn K neg x y H Q=∃ p xs,y=.ref p∧(SqL K H p xs∨SqT K H p xs)∧flatV x=true∧xs.all flatV=true∧Q (.bl (if neg then !inV x xs else inV x xs)) H:=rfl
end
section
variable {X:Cx}{tg l o e:Expr}{es:List Expr}{tl to:TE}{t:TA}{name:Str}{apos cpos:Pos}{T id:String}{r:V→List V→Hp→VK→Prop}
theorem pi_listK (K:PySem.W.Frag)(hl:PE X l tl)(h:X.K=K:=by rfl):PI X tg l (iList K tl):=h ▸ pi_list hl
theorem pe_bmK (K:PySem.W.Frag)(pa:PlainAttrs T)(slot:Slot T name id)(hty:typeOf (.builtin id)=pure (.type "method_descriptor"))(hm:MtR X id r)(ho:PE X o to)(ha:PA X (e::es) t)(hK:X.K=K:=by rfl)
    (hbase:attributeBase o name X.env (eval o X.env)=eval o X.env:=by rfl)
    (hfew:((backTo cpos (starEach (e::es) X.env)).all (fun x=>!x.1)&&(backToKw cpos (keywordEach [] X.env)).all (fun x=>x.1.isSome)
      && decide ((e::es).length+([]:List Keyword).length+(if ([]:List Keyword).isEmpty then 0 else 1)<30))=true:=by rfl)
    (hline:(apos.endLine==cpos.line)=true:=by rfl) (hs:starEach (e::es) X.env=(false,eval e X.env)::starEach es X.env:=by rfl) (hplain:(backTo cpos (starEach es X.env)).any (·.1)=false:=by rfl) :
    PE X (.Call (.Attribute o name apos) (e::es) [] cpos) (tBM K T r to t):=hK ▸ pe_bm pa slot hty hm ho ha hbase hfew hline hs hplain
end
section
variable {X:Cx}{st:Stmt}{rest:List Stmt}{t u:TS}
end
theorem rep0:List.replicate 0 (none:Option V)=[]:=rfl
theorem rep1:List.replicate 1 (none:Option V)=[none]:=rfl
theorem rep2:List.replicate 2 (none:Option V)=[none,none]:=rfl
theorem rep3:List.replicate 3 (none:Option V)=[none,none,none]:=rfl
theorem rep4:List.replicate 4 (none:Option V)=[none,none,none,none]:=rfl
theorem rep5:List.replicate 5 (none:Option V)=[none,none,none,none,none]:=rfl
theorem rep6:List.replicate 6 (none:Option V)=[none,none,none,none,none,none]:=rfl
theorem rep7:List.replicate 7 (none:Option V)=[none,none,none,none,none,none,none]:=rfl
theorem rep8:List.replicate 8 (none:Option V)=[none,none,none,none,none,none,none,none]:=rfl
theorem rep9:List.replicate 9 (none:Option V)=[none,none,none,none,none,none,none,none,none]:=rfl
theorem rep10:List.replicate 10 (none:Option V)=[none,none,none,none,none,none,none,none,none,none]:=rfl
theorem rep11:List.replicate 11 (none:Option V)=[none,none,none,none,none,none,none,none,none,none,none]:=rfl
end L2
namespace L2
open PySem PySem.Spec PyProof.Rows
mutual
inductive RdD (K:PySem.W.Frag) (H:Hp):V→PyData→Prop
  | non:RdD K H .non .none
  | bl (b:Bool):RdD K H (.bl b) (.bool b)
  | int (i:Int):RdD K H (.int i) (.int i)
  | str (x:Str):RdD K H (.str x) (.str x)
  | lst {a:Addr} {xs:List V} {ds:List PyData} (h:SqL K H a xs) (r:RdDs K H xs ds):RdD K H (.ref a) (.list ds)
  | tup {a:Addr} {xs:List V} {ds:List PyData} (h:SqT K H a xs) (r:RdDs K H xs ds):RdD K H (.ref a) (.tuple ds)
inductive RdDs (K:PySem.W.Frag) (H:Hp):List V→List PyData→Prop
  | nil:RdDs K H [] []
  | cons {x:V} {d:PyData} {xs:List V} {ds:List PyData} (h:RdD K H x d) (r:RdDs K H xs ds):RdDs K H (x::xs) (d::ds)
end
section
variable {X:Cx}{pins:List (Addr × Obj)}{σ:St}{H:Hp}{s:Shared}
mutual
theorem Inv.rd (I:Inv X pins σ H s):∀ {x:V} {d:PyData},RdD X.K H x d→∀ {u:Value},RelV x u→∃ as,Reads s.heap u d as
  | _,_,.non,_,r=>by cases r;exact ⟨_,.none⟩
  | _,_,.bl b,_,r=>by cases r;exact ⟨_,.bool b⟩
  | _,_,.int i,_,r=>by obtain ⟨t,rfl⟩:=r;exact ⟨_,.int i t⟩
  | _,_,.str x,_,r=>by obtain ⟨t,rfl⟩:=r;exact ⟨_,.str x t⟩
  | _,_,.lst h rs,_,r=>by
    cases r
    obtain ⟨its,rv,pl,_⟩:=I.list h
    obtain ⟨as,q⟩:=Inv.rds I rs rv
    obtain ⟨o,ho,hc,n,hd⟩:=pl.isList
    exact ⟨_,.list ho hc hd (by simpa using q)⟩
  | _,_,.tup h rs,_,r=>by
    cases r
    obtain ⟨its,rv,pl,_⟩:=I.tuple h
    obtain ⟨as,q⟩:=Inv.rds I rs rv
    obtain ⟨o,ho,hc,n,hd⟩:=pl
    exact ⟨_,.tuple ho hc hd (by simpa using q)⟩
theorem Inv.rds (I:Inv X pins σ H s):∀ {xs:List V} {ds:List PyData},RdDs X.K H xs ds→∀ {us:List Value},Vals xs us→∃ as,ReadsAll s.heap us ds as
  | _,_,.nil,_,r=>by cases r;exact ⟨_,.nil⟩
  | _,_,.cons h t,_,r=>by
    cases r with
    | cons r1 r2 =>
      obtain ⟨as,q⟩:=Inv.rd I h r1
      obtain ⟨bs,p⟩:=Inv.rds I t r2
      exact ⟨_,.cons q p⟩
end
end
section
variable {X:Cx}
def rEqD (K:PySem.W.Frag):R2:=fun x y H Q=>∃ d e,RdD K H x d∧RdD K H y e∧SeqAt.shaped d=true∧SeqAt.shaped e=true∧SeqAt.noMix d e=true∧Q (.bl (PySem.Spec.same d e)) H
def rNeD (K:PySem.W.Frag):R2:=fun x y H Q=>∃ d e,RdD K H x d∧RdD K H y e∧SeqAt.shaped d=true∧SeqAt.shaped e=true∧SeqAt.noMix d e=true∧Q (.bl (!PySem.Spec.same d e)) H
theorem op_eqD (K:PySem.W.Frag)(hu:X.A.units+64<cLine)(h:X.K=K:=by rfl):OpR X (compareOp .Eq) (rEqD K):=by
  subst h
  intro pins s σ H x y v u Q I rx ry h
  obtain ⟨d,e,h1,h2,s1,s2,nm,q⟩:=h
  obtain ⟨as,r1⟩:=I.rd h1 rx
  obtain ⟨bs,r2⟩:=I.rd h2 ry
  exact eq_dataH_same r1 r2 s1 s2 hu nm ⟨.bl _,H,I,rfl,q⟩
theorem op_neD (K:PySem.W.Frag)(hu:X.A.units+64<cLine)(h:X.K=K:=by rfl):OpR X (compareOp .NotEq) (rNeD K):=by
  subst h
  intro pins s σ H x y v u Q I rx ry h
  obtain ⟨d,e,h1,h2,s1,s2,nm,q⟩:=h
  obtain ⟨as,r1⟩:=I.rd h1 rx
  obtain ⟨bs,r2⟩:=I.rd h2 ry
  exact ne_dataH_same r1 r2 s1 s2 hu nm ⟨.bl _,H,I,rfl,q⟩
theorem hu64 {A:Around}{k:Nat}(hr:Room k A):A.units+64<cLine:=Nat.lt_of_le_of_lt (by omega) hr.un
end
theorem rds_ints {K:PySem.W.Frag}{H:Hp}:∀ ns:List Int,RdDs K H (ns.map V.int) (ns.map PyData.int)
  | []=>.nil
  | n::r=>.cons (.int n) (rds_ints r)
section
variable {K:PySem.W.Frag}{H:Hp}{Q:VK}{a b:Addr}
theorem rEqD_ints {ns ms:List Int}(h1:SqL K H a (ns.map V.int))(h2:SqL K H b (ms.map V.int))(q:Q (.bl (decide (ns=ms))) H):rEqD K (.ref a) (.ref b) H Q :=
  ⟨_,_,.lst h1 (rds_ints ns),.lst h2 (rds_ints ms),PySem.W.ke_shaped_ints ns,PySem.W.ke_shaped_ints ms,SeqAt.noMix_of_shape (.list .int) rfl _ _ (list_map_has fun _=>rfl) (list_map_has fun _=>rfl),by rw [PySem.W.ke_same];exact q⟩
theorem rNeD_ints {ns ms:List Int}(h1:SqL K H a (ns.map V.int))(h2:SqL K H b (ms.map V.int))(q:Q (.bl (!decide (ns=ms))) H):rNeD K (.ref a) (.ref b) H Q :=
  ⟨_,_,.lst h1 (rds_ints ns),.lst h2 (rds_ints ms),PySem.W.ke_shaped_ints ns,PySem.W.ke_shaped_ints ms,SeqAt.noMix_of_shape (.list .int) rfl _ _ (list_map_has fun _=>rfl) (list_map_has fun _=>rfl),by rw [PySem.W.ke_same];exact q⟩
end
section
variable {K:PySem.W.Frag}{H:Hp}{Q:VK}{a b:Addr}
end
section
variable {X:Cx}
end
theorem tDNewK_ap {σ:St}{H:Hp}{Q:VK}:tDNewK σ H Q=∀ p,H p=none→Q (.ref p) (upd H p (.dK [])):=rfl
section
variable {K:PySem.W.Frag}{H:Hp}{Q:VK}{p:Addr}{xs:List V}
theorem rIsi_tup (h:H p=some (.tup xs))(q:Q (.bl true) H):rIsi K [.ref p,.ty "tuple"] H Q:=⟨_,_,_,_,true,rfl,rfl,.tup h,rfl,q⟩
theorem rIsi_lst (h:H p=some (.lst xs))(q:Q (.bl true) H):rIsi K [.ref p,.ty "list"] H Q:=⟨_,_,_,_,true,rfl,rfl,.lst h,rfl,q⟩
end
end L2
namespace BM
open PySem L2 PyProof.Rows
end BM
namespace L2
open PySem PySem.Spec PyProof.Rows
section
variable {X:Cx}{tg:Expr}
end
section
variable {X:Cx}
theorem tyV_str {K:PySem.W.Frag}{z:Str}{H:Hp}:tyV K "str" (.str z) H:=rfl
end
theorem int_mk {K:PySem.W.Frag}{h:Heap}{mg:Str→Option Value}{x:Str}{n:Int}{t:Tok}(X:K.In h)(G:h.Ns mainGlobals mg)(a:PySem.W.nsIn K mainGlobals x=some (some (.int n t))):∃ t,mg x=some (.int n t):=⟨t,PySem.W.mg_of X G a⟩
end L2
namespace L2
open PySem PySem.Spec PyProof.Rows
def MethAt (P:Program)(w:World)(K:PySem.W.Frag)(mg:Str→Option Value)(base:Heap)(C:Addr)(m:Str)(ps:List Str)(k:Nat)(sp:Sp):Prop :=
  Cls K C∧∃ f fd,Meth K C m f∧FnOk P w K mg base CX0 k f fd ps sp∧Binds K fd ps []
def MDefAt (K:PySem.W.Frag)(C:Addr)(m qual:Str)(st:Stmt)(ps:List Str):Prop:=∃ f fd,Fun K m qual st f fd∧Meth K C m f∧Binds K fd ps []
def MakeAt (P:Program)(w:World)(K:PySem.W.Frag)(mg:Str→Option Value)(base:Heap)(x:Str)(C:Addr)(ps:List Str)(k:Nat)(sp:Sp):Prop :=
  mg x=some (.ref C)∧∃ f fd,Mk K C f∧FnOk P w K mg base CX0 k f fd ps sp∧Binds K fd ps []
def MakerAt (K:PySem.W.Frag)(C:Addr)(qual:Str)(st:Stmt)(ps:List Str):Prop:=∃ f fd,Fun K "__init__" qual st f fd∧Mk K C f∧Binds K fd ps []
section
variable {P:Program}{w:World}{K:PySem.W.Frag}{mg:Str→Option Value}{base:Heap}
theorem MethAt.of {C:Addr}{m qual:Str}{st:Stmt}{N ps:List Str}{k:Nat}{sp:Sp}(c:Cls K C)(d:MDefAt K C m qual st ps)(S:FnScope N ps (defScope st))(len:∀ vs H Q E,sp vs H Q E→vs.length=ps.length)
    (hbody:∀ (f:Addr) (cdv:Value) (A:Around) (outer:List Env) (s:Shared) (H:Hp) (vs:List V) (Q:VK) (E:XK),Room k (A.deeper (envOfC qual (defScope st) s.heap.objs.size f cdv))→sp vs H Q E →
      ∃ t,PSs (cxOf CX0 P w K mg base N qual (defScope st) f cdv A outer s H E).nox (defBody st) t∧t { nx:=fun _ H'=>Q .non H',rt:=Q } (start N vs) H):MethAt P w K mg base C m ps (k+1) sp:=by
  obtain ⟨f,fd,F,m,b⟩:=d
  exact ⟨c,f,fd,m,F.ok S len (hbody f),b⟩
theorem MakeAt.of {x:Str}{C:Addr}{qual:Str}{st:Stmt}{N ps:List Str}{k:Nat}{sp:Sp}(hx:mg x=some (.ref C))(d:MakerAt K C qual st ps)(S:FnScope N ps (defScope st))(len:∀ vs H Q E,sp vs H Q E→vs.length=ps.length)
    (hbody:∀ (f:Addr) (cdv:Value) (A:Around) (outer:List Env) (s:Shared) (H:Hp) (vs:List V) (Q:VK) (E:XK),Room k (A.deeper (envOfC qual (defScope st) s.heap.objs.size f cdv))→sp vs H Q E →
      ∃ t,PSs (cxOf CX0 P w K mg base N qual (defScope st) f cdv A outer s H E).nox (defBody st) t∧t { nx:=fun _ H'=>Q .non H',rt:=Q } (start N vs) H):MakeAt P w K mg base x C ps (k+1) sp:=by
  obtain ⟨f,fd,F,m,b⟩:=d
  exact ⟨hx,f,fd,m,F.ok S len (hbody f),b⟩
theorem mdef_mk {C:Addr}{m qual:Str}{st:Stmt}{ps:List Str}{f:Addr}{oc:Value}{od an:Option Addr}{osl:Array (Option Value)}{kV doc pm cdv ct:Value}(a:PySem.W.findIn K (.ref C) m=some (some (.ref f)))
    (l:K.lookup f=some ⟨oc,od,.func (PySem.W.fnOf m qual (defArgs st) (defBody st) (defScope st) .none kV doc pm an cdv ct),osl⟩) (c:PySem.W.codeIn K cdv qual=true) (k:PySem.W.keepIn K (.ref f)=true) (fn:PySem.W.isFn K (.ref f)=true)
    (hb:∀ (kV doc pm:Value) (an:Option Addr) (cdv ct:Value) (us:List Value),us.length=ps.length→bindArgs (PySem.W.fnOf m qual (defArgs st) (defBody st) (defScope st) .none kV doc pm an cdv ct) ⟨us,[]⟩=pure (ps.zip us)):MDefAt K C m qual st ps :=
  ⟨f,_,fun_mk l c k,⟨a,fn,k⟩,(fun_mk l c k).binds hb⟩
theorem maker_mk {C:Addr}{qual:Str}{st:Stmt}{ps:List Str}{f:Addr}{oc:Value}{od an:Option Addr}{osl:Array (Option Value)}{kV doc pm cdv ct:Value}(a:PySem.W.findIn K (.ref C) "__init__"=some (some (.ref f)))
    (l:K.lookup f=some ⟨oc,od,.func (PySem.W.fnOf "__init__" qual (defArgs st) (defBody st) (defScope st) .none kV doc pm an cdv ct),osl⟩) (c:PySem.W.codeIn K cdv qual=true) (k:PySem.W.keepIn K (.ref f)=true) (fn:PySem.W.isFn K (.ref f)=true)
    (mk:PySem.W.makesIn K C=true) (kC:PySem.W.keepIn K (.ref C)=true)
    (hb:∀ (kV doc pm:Value) (an:Option Addr) (cdv ct:Value) (us:List Value),us.length=ps.length→bindArgs (PySem.W.fnOf "__init__" qual (defArgs st) (defBody st) (defScope st) .none kV doc pm an cdv ct) ⟨us,[]⟩=pure (ps.zip us)):MakerAt K C qual st ps :=
  ⟨f,_,fun_mk l c k,⟨mk,a,fn,kC⟩,(fun_mk l c k).binds hb⟩
end
def tMeD (P:Program)(w:World)(K:PySem.W.Frag)(mg:Str→Option Value)(base:Heap)(k0:Nat)(m:Str)(ta:TE)(t:TA):TE:=fun σ H Q=>ta σ H fun x H1=>∃ a C dx fs ps sp,x=.ref a∧H1 a=some (.ins C dx fs)∧fs.lookup m=none ∧
  MethAt P w K mg base C m ps k0 sp∧t σ H1 fun vs H2=>sp (x::vs) H2 Q E0
section
variable {X:Cx}{k0:Nat}{x m:Str}{p pos apos:Pos}{e o:Expr}{es:List Expr}{ta:TE}{t:TA}{P:Program}{w:World}{K:PySem.W.Frag}{mg:Str→Option Value}{base:Heap}
theorem pe_meD (k0:Nat){pl:Sem Bool}(hr:Room k0 X.A)(he:PE X o ta)(ha:PA X (e::es) t)(hP:X.prog=P:=by rfl)(hw:X.w=w:=by rfl)(hK:X.K=K:=by rfl)(hmg:X.mg=mg:=by rfl)(hbs:X.base=base:=by rfl)
    (hst:starEach (e::es) X.env=(false,eval e X.env)::starEach es X.env:=by rfl) (hpl:(backTo pos (starEach es X.env)).any (·.1)=false:=by rfl)
    (ht:eval (.Call (.Attribute o m apos) (e::es) [] pos) X.env=(do
      let ov ← eval o X.env
      standAt apos.atName
      let (f,first) ← holding [ov] (getMethod ov m pl)
      callWith pos f first (backTo pos (starEach (e::es) X.env)) (backToKw pos (keywordEach [] X.env))):=by rfl) :
    PE X (.Call (.Attribute o m apos) (e::es) [] pos) (tMeD P w K mg base k0 m ta t):=by
  subst hP hw hK hmg hbs
  intro pins s σ H Q I h
  refine PySem.W.methodCall_KW (pl:=pl) (thn (he pins s σ H _ I h) fun u s1 hz=>?_) ht
  obtain ⟨x,H1,I1,rx,a,C,dx,fs,ps,sp,ex,ea,l,⟨c,f,fd,me,F,b⟩,q⟩:=hz
  subst ex
  obtain rfl:u=Value.ref a:=rx
  refine getmeth_ok I1 ea c me l ?_
  refine PySem.W.callWith_K (first:=[.ref a]) (h₀:=X.base) I.ok.mod.kin me.kp (thn (ha pos pins s1 σ H1 _ I1 q) fun us s2 ⟨vs,H2,I2,r,q2⟩=>⟨I2.kIn,?_⟩) hst hpl
  exact run_fn (us:=.ref a::us) (vs:=.ref a::vs) (dvs:=[]) F hr b .nil pass0 I2 (.cons rfl r) (by rw [List.append_nil];exact q2)
theorem pe_meD0 (k0:Nat){pl:Sem Bool}(hr:Room k0 X.A)(he:PE X o ta)(hP:X.prog=P:=by rfl)(hw:X.w=w:=by rfl)(hK:X.K=K:=by rfl)(hmg:X.mg=mg:=by rfl)(hbs:X.base=base:=by rfl)
    (ht:eval (.Call (.Attribute o m apos) [] [] pos) X.env=(do
      let ov ← eval o X.env
      standAt apos.atName
      let (f,first) ← holding [ov] (getMethod ov m pl)
      callWith pos f first (backTo pos (starEach [] X.env)) (backToKw pos (keywordEach [] X.env))):=by rfl) :
    PE X (.Call (.Attribute o m apos) [] [] pos) (tMeD P w K mg base k0 m ta tNil):=by
  subst hP hw hK hmg hbs
  intro pins s σ H Q I h
  refine PySem.W.methodCall_KW (pl:=pl) (thn (he pins s σ H _ I h) fun u s1 hz=>?_) ht
  obtain ⟨x,H1,I1,rx,a,C,dx,fs,ps,sp,ex,ea,l,⟨c,f,fd,me,F,b⟩,q⟩:=hz
  subst ex
  obtain rfl:u=Value.ref a:=rx
  refine getmeth_ok I1 ea c me l ?_
  exact PySem.W.callWith_K0 (first:=[.ref a]) I1.kIn me.kp (run_fn (us:=[.ref a]) (vs:=[.ref a]) (dvs:=[]) F hr b .nil pass0 I1 (.cons rfl .nil) q)
theorem pe_makeF {C:Addr}{ps:List Str}{k:Nat}{sp:Sp}(F:MakeAt X.prog X.w X.K X.mg X.base x C ps k sp)(hr:Room (k+1) X.A)(hg:Gl X x)(ha:PA X (e::es) t)
    (hdb:(x==("__debug__":Str))=false:=by decide) (he:starEach (e::es) X.env=(false,eval e X.env)::starEach es X.env:=by rfl) (hpl:(backTo pos (starEach es X.env)).any (·.1)=false:=by rfl) :
    PE X (.Call (.Name x p) (e::es) [] pos) (tMake C sp [] E0 t):=by
  obtain ⟨hm,f,fd,M,F,b⟩:=F
  exact pe_make M F hr hg hm b .nil pass0 ha hdb he hpl
theorem ps_fldK (K:PySem.W.Frag){value:Expr}{f:Str}{tv:TE}{pos':Pos}(ha:PE X o ta)(hv:PE X value tv)(hs:swapsWith value (some (.Attribute o f pos')) pos.line X.env=pure false:=by rfl)(h:X.K=K:=by rfl):PS X (.Assign [.Attribute o f pos'] value pos) (sFld K ta tv f):=h ▸ ps_fld ha hv hs
theorem pe_fldK (K:PySem.W.Frag){f:Str}(he:PE X e ta)(h:X.K=K:=by rfl)(hb:attributeBase e f X.env (eval e X.env)=eval e X.env:=by rfl):PE X (.Attribute e f pos) (tFld K ta f):=h ▸ pe_fld he hb
end
section
variable {P:Program}{w:World}{K:PySem.W.Frag}{mg:Str→Option Value}{base:Heap}{k0:Nat}{m f:Str}{ta tv:TE}{t:TA}{σ:St}{H:Hp}{Q:VK}{C:Addr}{sp:Sp}{dvs:List V}{E:XK}{D:Ends}
theorem tMeD_ap:tMeD P w K mg base k0 m ta t σ H Q=ta σ H fun x H1=>∃ a C dx fs ps sp,x=.ref a∧H1 a=some (.ins C dx fs)∧fs.lookup m=none∧MethAt P w K mg base C m ps k0 sp∧t σ H1 fun vs H2=>sp (x::vs) H2 Q E0:=rfl
theorem tMake_ap:tMake C sp dvs E t σ H Q=t σ H fun vs H1=>∀ x dx,H1 x=none→H1 dx=none→dx≠x→sp (.ref x::(vs++dvs)) (upd (upd H1 dx (.own x)) x (.ins C dx [])) (fun v H2=>v=.non∧Q (.ref x) H2) E:=rfl
theorem tFld_ap:tFld K ta f σ H Q=ta σ H fun x H1=>∃ a C dx fs v,x=.ref a∧H1 a=some (.ins C dx fs)∧Cls K C∧NoAttr K C f∧fs.lookup f=some v∧Q v H1:=rfl
theorem sFld_ap:sFld K ta tv f D σ H=tv σ H fun y H1=>ta σ H1 fun x H2=>∃ a C dx fs,x=.ref a∧H2 a=some (.ins C dx fs)∧Cls K C∧NoAttr K C f∧fs.length<1000∧D.nx σ (upd H2 a (.ins C dx (putF f y fs))):=rfl
theorem gTup_ap {n:Nat}{t:TGs}{v:V}{R:St→Hp→Prop}:gTup K n t v σ H R=∃ a xs,v=.ref a∧SqT K H a xs∧xs.length=n∧t xs σ H R:=rfl
theorem gCons_ap {t:TG}{u:TGs}{vs:List V}{R:St→Hp→Prop}:gCons t u vs σ H R=∃ v r,vs=v::r∧t v σ H fun σ' H'=>u r σ' H' R:=rfl
theorem gNil_ap {vs:List V}{R:St→Hp→Prop}:gNil vs σ H R=(vs=[]∧R σ H):=rfl
theorem tSl_ap {r:V→Option Int→Option Int→Hp→VK→Prop}{te:TE}{tl th:TO}:tSl r te tl th σ H Q=te σ H fun x H1=>tl σ H1 fun l H2=>th σ H2 fun u H3=>r x l u H3 Q:=rfl
theorem tNoPart_ap {R:Option Int→Hp→Prop}:tNoPart σ H R=R none H:=rfl
theorem tPart_ap {R:Option Int→Hp→Prop}:tPart ta σ H R=ta σ H fun x H1=>∃ i,x=.int i∧R (some i) H1:=rfl
theorem rSlL_ap {x:V}{lo hi:Option Int}:rSlL K x lo hi H Q=∃ a xs,x=.ref a∧SqL K H a xs∧∀ p,H p=none→Q (.ref p) (upd H p (.lst (cutV xs lo hi))):=rfl
theorem sl_listK {X:Cx}(K:PySem.W.Frag)(h:X.K=K:=by rfl):SlR X (rSlL K):=h ▸ sl_list
theorem pg_tupK {X:Cx}(K:PySem.W.Frag){pos:Pos}{es:List Expr}{k:Nat}{t:TGs}{n:Nat}(hc:X.calm=true)(h:PGs X es t)(hK:X.K=K:=by rfl)
    (hn:(assignEach es X.env).length=n:=by rfl) (hst:(assignEach es X.env).findIdx? (·.1)=none:=by rfl):PG X (.Tuple es k pos) (gTup K n t):=hK ▸ pg_tup hc h hn hst
end
def CompYes (n i:Nat)(D:Addr)(I:Nat→List V→Hp→Prop)(y:V)(H6:Hp):Prop:=∃ xs,H6 D=some (.lst xs)∧xs.length<sizeLine∧∃ m',m'<n-i∧m'=n-(i+1)∧∃ ys,I (i+1) ys (upd H6 D (.lst (xs++[y])))
def CompNo (n i:Nat)(I:Nat→List V→Hp→Prop)(H5:Hp):Prop:=∃ m',m'<n-i∧m'=n-(i+1)∧∃ ys,I (i+1) ys H5
theorem compYes {n i:Nat}{D:Addr}{I:Nat→List V→Hp→Prop}{y:V}{H6:Hp}{ys:List V}(hn:n≤1000000)(hi:i<n)(hl:ys.length≤i)(h:H6 D=some (.lst ys))(q:I (i+1) (ys++[y]) (upd H6 D (.lst (ys++[y])))):CompYes n i D I y H6 :=
  ⟨ys,h,by rw [sizeLine_eq];omega,n-(i+1),by omega,rfl,_,q⟩
theorem compNo {n i:Nat}{I:Nat→List V→Hp→Prop}{H5:Hp}{ys:List V}(hi:i<n)(q:I (i+1) ys H5):CompNo n i I H5:=⟨n-(i+1),by omega,rfl,_,q⟩
theorem compG {J:It}{m n:Nat}{caps:List Nat}{g:TG}{tt:TT}{te:TE}{σ:St}{H1:Hp}{Q:VK}(I:Addr→Nat→List V→Hp→Prop)
    (h0:∀ D,H1 D=none→I D 0 [] (upd H1 D (.lst []))) (hl:∀ D i ys H2,I D i ys H2→i≤n)
    (hstop:∀ D ys H2,H1 D=none→I D n ys H2→J.stop n H2) (hgo:∀ D i ys H2,H1 D=none→i<n→I D i ys H2→J.go i H2)
    (turn:∀ D i ys H2 x H3,H1 D=none→i<n→I D i ys H2→J.yld i H2 x H3→g x (capSt m caps σ) H3 fun σ4 H4=>tt σ4 H4 fun b H5=>if b=true then te σ4 H5 fun y H6=>CompYes n i D (I D) y H6 else CompNo n i (I D) H5)
    (hq:∀ D ys H2,H1 D=none→I D n ys H2→Q (.ref D) H2):CompJ J m caps g tt te σ H1 Q:=by
  intro D hD
  refine ⟨fun i k H2=>k=n-i∧∃ ys,I D i ys H2,⟨n,rfl,[],h0 D hD⟩,?_⟩
  rintro i k H2 ⟨rfl,ys,hI⟩
  have h1:=hl D i ys H2 hI
  by_cases hlt:i<n
  · exact .inr ⟨hgo D i ys H2 hD hlt hI,fun x H3 y=>turn D i ys H2 x H3 hD hlt hI y⟩
  · have e:i=n:=by omega
    subst e
    exact .inl ⟨hstop D ys H2 hD hI,hq D ys H2 hD hI⟩
theorem Same.put {H H':Hp}{a:Addr}{o:HO}(s:Same H H')(h:H a=none):Same H (upd H' a o):=fun b u e=>by rw [upd_ne (ne_of_none e h)];exact s b u e
theorem Same.new {H:Hp}{a:Addr}{o:HO}(h:H a=none):Same H (upd H a o):=(Same.refl H).put h
end L2
namespace L2
open PySem PySem.Spec PyProof.Rows
section
variable {prog:Program}{w:World}{A:Around}{E:Value→Shared→Prop}{s:Shared}
end
section
variable {X:Cx}{e:Expr}{te:TE}{p p' pos pos':Pos}
end
theorem rExtend_ap {x:V}{vs:List V}{H:Hp}{Q:VK}:rExtend x vs H Q=∃ l b xs zs,x=.ref l∧vs=[.ref b]∧H l=some (.lst xs)∧H b=some (.lst zs)∧xs.length+zs.length≤sizeLine∧Q .non (upd H l (.lst (xs++zs))):=rfl
end L2
namespace L2
open PySem PySem.Spec PyProof.Rows
section
variable {prog:Program}{w:World}{A:Around}{E:Value→Shared→Prop}
end
structure TyIns (K:PySem.W.Frag)(C:Addr):Prop where
  a:PySem.W.findIn K (.ref C) "__class__"=some (some (.builtin "object.__class__"))
  b:PySem.W.specialIn K (.builtin "object.__class__") "__get__"=some (some (.builtin "getset_descriptor.__get__"))
  c:PySem.W.takesIn K (.builtin "object.__class__")=some true
  d:PySem.W.mroIn K C (.type "object")=some true
def IsiTo (K:PySem.W.Frag)(mg:Str→Option Value)(C:Addr)(x:Str)(b:Bool):Prop:=∀ S,mg x=some (.ref S)→PySem.W.kitOne K (.ref C) (.ref S)=some b
theorem isi_to {K:PySem.W.Frag}{h:Heap}{mg:Str→Option Value}{x:Str}{C S:Addr}{b:Bool}(X:K.In h)(G:h.Ns mainGlobals mg)(a:PySem.W.nsIn K mainGlobals x=some (some (.ref S)))(r:PySem.W.kitOne K (.ref C) (.ref S)=some b):IsiTo K mg C x b:=fun T e=>by
  rw [PySem.W.mg_of X G a] at e
  cases e
  exact r
theorem all1 {α:Type}{p:List α→Prop}(h:∀ a,p [a]):∀ us:List α,us.length=1→p us
  | [a],_=>h a
theorem all2 {α:Type}{p:List α→Prop}(h:∀ a b,p [a,b]):∀ us:List α,us.length=2→p us
  | [a,b],_=>h a b
theorem all3 {α:Type}{p:List α→Prop}(h:∀ a b c,p [a,b,c]):∀ us:List α,us.length=3→p us
  | [a,b,c],_=>h a b c
theorem all4 {α:Type}{p:List α→Prop}(h:∀ a b c d,p [a,b,c,d]):∀ us:List α,us.length=4→p us
  | [a,b,c,d],_=>h a b c d
end L2
namespace BM
open PySem L2 PyProof.Rows
def fs (k:Nat):Nat→Nat→Nat
  | 0,_=>0
  | n+1,w=>w%2^k+fs k n (w/2^k)
end BM
namespace L2
open PySem PySem.Spec PyProof.Rows
section
variable {X:Cx}{pins:List (Addr × Obj)}{σ:St}{H:Hp}{s:Shared}{h':Heap}
end
structure ZipTn (z TI TO i1 i2 a b:Addr)(i:Nat)(h:Heap):Prop where
  z:IsZip h z TI TO .none
  ti:IsPair h TI (.ref i1) (.ref i2)
  to:∃ x y,IsPair h TO x y
  i1:h.IsListIter i1 a i
  i2:h.IsListIter i2 b i
theorem tChain_ap {r r':R2}{ta tb tc:TE}{σ:St}{H:Hp}{Q:VK}:tChain r r' ta tb tc σ H Q=ta σ H fun x H1=>tb σ H1 fun y H2=>r x y H2 fun z H3=>∃ k,z=.bl k∧(if k=true then tc σ H3 fun w' H4=>r' y w' H4 Q else Q (.bl false) H3):=rfl
end L2
namespace L2
open PySem PySem.Spec PyProof.Rows
section
variable {x:V}{vs:List V}{H:Hp}{Q:VK}
end
end L2
namespace ZT
open PySem PySem.Spec PyProof.Rows
section
variable {prog:Program}{w:World}{A:Around}{E:Value→Shared→Prop}{s:Shared}
end
section
variable {prog:Program}{w:World}{A:Around}{E:Value→Shared→Prop}{s:Shared}
end
theorem size_push {h:Heap}{o:Obj}:(h.push o).objs.size=h.objs.size+1:=Heap.size_push ..
section
variable {prog:Program}{w:World}{A:Around}{E:Value→Shared→Prop}{s:Shared}
end
end ZT
namespace L2
open PySem PySem.Spec PyProof.Rows
structure ZipTt (z TI TO i1 i2 a b:Addr)(i:Nat)(h:Heap):Prop where
  z:IsZip h z TI TO .none
  ti:IsPair h TI (.ref i1) (.ref i2)
  to:∃ x y,IsPair h TO x y
  i1:IsTupIter h i1 a i
  i2:IsTupIter h i2 b i
end L2
namespace L2
open PySem PySem.Spec PyProof.Rows
abbrev bmVal:List Value:=[.type "ValueError",.type "Exception",.type "BaseException",.type "object"]
structure XCls (K:PySem.W.Frag)(C:Addr):Prop where
  q:PySem.W.excIn K C bmVal "ValueError.__new__"=true
  kp:PySem.W.keepIn K (.ref C)=true
section
variable {K:PySem.W.Frag}{h:Heap}{C:Addr}
end
section
variable {P:Program}{w:World}{H:Hp}{h h':Heap}{a:Addr}{o:HO}
end
section
variable {X:Cx}{C:Addr}
end
end L2
namespace Srt
open PySem PyProof.Rows
def gallop':Bool→Keyed→Array Keyed→Nat→Nat→Nat→StateT SortSt Sem (Option Nat):=sortPriv% PySem.Builtin.gallop
def beyond' (left:Bool)(key:Keyed)(arr:Array Keyed)(base i:Nat):StateT SortSt Sem (Option Bool):=do
  let x ← elem' arr (base+i)
  if left then lt' x key else return (← lt' key x).map (!·)
structure Cmp (M:Model)(A:Around)(E:Value→Shared→Prop)(s:Shared)(kd:SortKind)(S:Keyed→Prop)(L:Keyed→Keyed→Bool):Prop where
  lt:∀ (x y:Keyed) (st:SortSt) (Q:Option Bool→SortSt→Prop),S x→S y→kindOf st=kd→Q (some (L x y)) st→wpS M A E s (lt' x y) Q st
  asym:∀ x y,L x y=true→L y x=false
  neg:∀ x y z,S x→S y→S z→L x z=true→L x y=true∨L y z=true
section
variable {M:Model}{A:Around}{E:Value→Shared→Prop}{s:Shared}{kd:SortKind}{S:Keyed→Prop}{L:Keyed→Keyed→Bool}
def pb (L:Keyed→Keyed→Bool)(left:Bool)(key:Keyed)(arr:Array Keyed)(base i:Nat):Bool:=match arr[base+i]? with
  | some x=>if left then L x key else !L key x
  | none=>false
theorem wpS_elem {arr:Array Keyed}{i:Nat}{x:Keyed}{st:SortSt}{Q:Keyed→SortSt→Prop}(e:arr[i]?=some x)(h:Q x st):wpS M A E s (elem' arr i) Q st:=by
  rw [elem'_eq,e]
  exact wpS_pure h
theorem wpS_beyond (C:Cmp M A E s kd S L){left:Bool}{key:Keyed}{arr:Array Keyed}{base i:Nat}{st:SortSt}{Q:Option Bool→SortSt→Prop}(hk:kindOf st=kd)(sk:S key)(sa:∀ x∈arr.toList,S x)(hi:base+i<arr.size)
    (h:Q (some (pb L left key arr base i)) st):wpS M A E s (beyond' left key arr base i) Q st:=by
  have e:arr[base+i]?=some (arr[base+i]'hi):=getElem?_pos arr (base+i) hi
  have sx:S (arr[base+i]'hi):=sa _ (by simp)
  unfold pb at h
  rw [e] at h
  unfold beyond'
  refine wpS_bind (wpS_elem e ?_)
  cases left with
  | true=>exact C.lt _ _ _ _ sx sk hk h
  | false =>
    simp only [Bool.false_eq_true,if_false] at h ⊢
    exact wpS_bind (C.lt _ _ _ _ sk sx hk (wpS_pure h))
theorem wpS_gallop (C:Cmp M A E s kd S L) {left:Bool} {key:Keyed} {arr:Array Keyed} {base n hint:Nat} {st:SortSt} {Q:Option Nat→SortSt→Prop} (hk:kindOf st=kd) (sk:S key) (sa:∀ x∈arr.toList,S x) (hn:base+n≤arr.size) (hh:hint<n)
    (mono:∀ i j,i≤j→j<n→pb L left key arr base j=true→pb L left key arr base i=true)
    (h:∀ k,k≤n→(∀ i,i<k→pb L left key arr base i=true)→(∀ i,k≤i→i<n→pb L left key arr base i=false)→Q (some k) st):wpS M A E s (gallop' left key arr base n hint) Q st:=by
  unfold gallop'
  k_delta "gallop"
  dsimp only
  generalize hp:pb L left key arr base=p at mono h
  have monoF:∀ i j,i≤j→j<n→p i=false→p j=false:=fun i j hij hj hi=>by
    cases e:p j with
    | false=>rfl
    | true=>rw [mono i j hij hj e] at hi;cases hi
  have ask:∀ {i:Nat} {Q':Option Bool→SortSt→Prop},i<n→Q' (some (p i)) st→wpS M A E s (beyond' left key arr base i) Q' st:=fun hi q =>
    wpS_beyond C hk sk sa (by omega) (by rw [hp];exact q)
  refine wpS_bind (ask hh ?_)
  dsimp only
  cases e0:p hint with
  | true =>
    rw [if_pos rfl]
    refine wpS_bind (wpS_mono (wpS_forRange (I:=fun x c st'=>st=st'∧c.1=none∧c.2.1<c.2.2∧hint+c.2.1<n∧x+1≤c.2.2∧p (hint+c.2.1)=true)
      (Q:=fun c st'=>st=st'∧c.1=none∧c.2.1<c.2.2∧hint+c.2.1<n∧p (hint+c.2.1)=true∧(c.2.2≥n-hint∨p (hint+c.2.2)=false)) ?step ?fin ?init) ?post)
    case init=>exact ⟨rfl,rfl,Nat.one_pos,hh,Nat.le_refl _,e0⟩
    case fin =>
      rintro ⟨c1,c2,c3⟩ st' ⟨rfl,e1,g1,g2,g3,g4⟩
      refine ⟨rfl,e1,g1,g2,g4,.inl ?_⟩
      dsimp only at *
      omega
    case step =>
      rintro x ⟨c1,c2,c3⟩ st' _ hx ⟨rfl,e1,g1,g2,g3,g4⟩
      dsimp only at *
      subst e1
      by_cases hlt:c3≥n-hint
      · rw [if_pos hlt]
        exact wpS_pure ⟨rfl,rfl,g1,g2,g4,.inl hlt⟩
      · rw [if_neg hlt]
        refine wpS_bind (ask (by omega) ?_)
        dsimp only
        cases e:p (hint+c3) with
        | true =>
          rw [if_neg (by decide)]
          refine wpS_pure ⟨rfl,rfl,?_,?_,?_,e⟩
          · show c3<2*c3+1
            omega
          · show hint+c3<n
            omega
          · show x+1+1≤2*c3+1
            omega
        | false =>
          rw [if_pos (by decide)]
          exact wpS_pure ⟨rfl,rfl,g1,g2,g4,.inr e⟩
    case post =>
      rintro ⟨c1,c2,c3⟩ st' ⟨rfl,e1,g1,g2,g4,g5⟩
      dsimp only at *
      subst e1
      dsimp only
      have h1:hint+c2+1≤hint+min c3 (n-hint):=by omega
      have h2:hint+min c3 (n-hint)≤n:=by omega
      have h3:∀ i,i<hint+c2+1→p i=true:=fun i hi=>mono i (hint+c2) (by omega) g2 g4
      have h4:∀ i,hint+min c3 (n-hint)≤i→i<n→p i=false:=by
        intro i hi hin
        rcases g5 with z | z
        · omega
        · by_cases hc:c3≥n-hint
          · omega
          · exact monoF _ i (by omega) hin z
      clear g1 g2 g4 g5
      refine wpS_bind (wpS_mono (wpS_forRange (I:=fun x c st'=>st=st'∧c.1=none∧c.2.1≤c.2.2∧c.2.2≤n∧(c.2.2-c.2.1≤n-x)∧(∀ i,i<c.2.1→p i=true)∧(∀ i,c.2.2≤i→i<n→p i=false))
        (Q:=fun c st'=>st=st'∧c.1=none∧c.2.2≤n∧(∀ i,i<c.2.2→p i=true)∧(∀ i,c.2.2≤i→i<n→p i=false)) ?step2 ?fin2 ?init2) ?post2)
      case init2=>exact ⟨rfl,rfl,h1,h2,Nat.le_trans (Nat.sub_le _ _) h2,h3,h4⟩
      case fin2 =>
        rintro ⟨c1,c2,c3⟩ st' ⟨rfl,e1,g1,g2,g3,g4,g5⟩
        dsimp only at *
        have:c2=c3:=by omega
        subst this
        exact ⟨rfl,e1,g2,g4,g5⟩
      case post2 =>
        rintro ⟨c1,c2,c3⟩ st' ⟨rfl,e1,g2,g4,g5⟩
        dsimp only at *
        subst e1
        exact wpS_pure (h _ g2 g4 g5)
      case step2 =>
        rintro x ⟨c1,c2,c3⟩ st' _ hx ⟨rfl,e1,g1,g2,g3,g4,g5⟩
        dsimp only at *
        subst e1
        by_cases hlt:c2≥c3
        · rw [if_pos hlt]
          have:c2=c3:=by omega
          subst this
          exact wpS_pure ⟨rfl,rfl,g2,g4,g5⟩
        · rw [if_neg hlt]
          refine wpS_bind (ask (by omega) ?_)
          dsimp only
          cases e:p (c2+(c3-c2)/2) with
          | true =>
            rw [if_pos rfl]
            refine wpS_pure ⟨rfl,rfl,?_,g2,?_,fun i hi=>?_,g5⟩
            · show c2+(c3-c2)/2+1≤c3
              omega
            · show c3-(c2+(c3-c2)/2+1)≤n-(x+1)
              omega
            · have hi:i<c2+(c3-c2)/2+1:=hi
              exact mono i _ (by omega) (by omega) e
          | false =>
            rw [if_neg (by decide)]
            refine wpS_pure ⟨rfl,rfl,?_,?_,?_,g4,fun i hi hin=>monoF _ i hi hin e⟩
            · show c2≤c2+(c3-c2)/2
              omega
            · show c2+(c3-c2)/2≤n
              omega
            · show c2+(c3-c2)/2-c2≤n-(x+1)
              omega
  | false =>
    rw [if_neg (by decide)]
    refine wpS_bind (wpS_mono (wpS_forRange (I:=fun x c st'=>st=st'∧c.1=none∧c.2.1<c.2.2∧c.2.1≤hint∧x+1≤c.2.2∧p (hint-c.2.1)=false)
      (Q:=fun c st'=>st=st'∧c.1=none∧c.2.1<c.2.2∧c.2.1≤hint∧p (hint-c.2.1)=false∧(c.2.2≥hint+1∨p (hint-c.2.2)=true)) ?step ?fin ?init) ?post)
    case init=>exact ⟨rfl,rfl,Nat.one_pos,Nat.zero_le _,Nat.le_refl _,e0⟩
    case fin =>
      rintro ⟨c1,c2,c3⟩ st' ⟨rfl,e1,g1,g2,g3,g4⟩
      refine ⟨rfl,e1,g1,g2,g4,.inl ?_⟩
      dsimp only at *
      omega
    case step =>
      rintro x ⟨c1,c2,c3⟩ st' _ hx ⟨rfl,e1,g1,g2,g3,g4⟩
      dsimp only at *
      subst e1
      by_cases hlt:c3≥hint+1
      · rw [if_pos hlt]
        exact wpS_pure ⟨rfl,rfl,g1,g2,g4,.inl hlt⟩
      · rw [if_neg hlt]
        refine wpS_bind (ask (by omega) ?_)
        dsimp only
        cases e:p (hint-c3) with
        | true =>
          rw [if_pos rfl]
          exact wpS_pure ⟨rfl,rfl,g1,g2,g4,.inr e⟩
        | false =>
          rw [if_neg (by decide)]
          refine wpS_pure ⟨rfl,rfl,?_,?_,?_,e⟩
          · show c3<2*c3+1
            omega
          · show c3≤hint
            omega
          · show x+1+1≤2*c3+1
            omega
    case post =>
      rintro ⟨c1,c2,c3⟩ st' ⟨rfl,e1,g1,g2,g4,g5⟩
      dsimp only at *
      subst e1
      dsimp only
      have h1:hint+1-min c3 (hint+1)≤hint-c2:=by omega
      have h2:hint-c2≤n:=by omega
      have h3:∀ i,i<hint+1-min c3 (hint+1)→p i=true:=by
        intro i hi
        rcases g5 with z | z
        · omega
        · by_cases hc:c3≥hint+1
          · omega
          · exact mono i (hint-c3) (by omega) (by omega) z
      have h4:∀ i,hint-c2≤i→i<n→p i=false:=fun i hi hin=>monoF _ i hi hin g4
      clear g1 g2 g4 g5
      refine wpS_bind (wpS_mono (wpS_forRange (I:=fun x c st'=>st=st'∧c.1=none∧c.2.1≤c.2.2∧c.2.2≤n∧(c.2.2-c.2.1≤n-x)∧(∀ i,i<c.2.1→p i=true)∧(∀ i,c.2.2≤i→i<n→p i=false))
        (Q:=fun c st'=>st=st'∧c.1=none∧c.2.2≤n∧(∀ i,i<c.2.2→p i=true)∧(∀ i,c.2.2≤i→i<n→p i=false)) ?step2 ?fin2 ?init2) ?post2)
      case init2=>exact ⟨rfl,rfl,h1,h2,Nat.le_trans (Nat.sub_le _ _) h2,h3,h4⟩
      case fin2 =>
        rintro ⟨c1,c2,c3⟩ st' ⟨rfl,e1,g1,g2,g3,g4,g5⟩
        dsimp only at *
        have:c2=c3:=by omega
        subst this
        exact ⟨rfl,e1,g2,g4,g5⟩
      case post2 =>
        rintro ⟨c1,c2,c3⟩ st' ⟨rfl,e1,g2,g4,g5⟩
        dsimp only at *
        subst e1
        exact wpS_pure (h _ g2 g4 g5)
      case step2 =>
        rintro x ⟨c1,c2,c3⟩ st' _ hx ⟨rfl,e1,g1,g2,g3,g4,g5⟩
        dsimp only at *
        subst e1
        by_cases hlt:c2≥c3
        · rw [if_pos hlt]
          have:c2=c3:=by omega
          subst this
          exact wpS_pure ⟨rfl,rfl,g2,g4,g5⟩
        · rw [if_neg hlt]
          refine wpS_bind (ask (by omega) ?_)
          dsimp only
          cases e:p (c2+(c3-c2)/2) with
          | true =>
            rw [if_pos rfl]
            refine wpS_pure ⟨rfl,rfl,?_,g2,?_,fun i hi=>?_,g5⟩
            · show c2+(c3-c2)/2+1≤c3
              omega
            · show c3-(c2+(c3-c2)/2+1)≤n-(x+1)
              omega
            · have hi:i<c2+(c3-c2)/2+1:=hi
              exact mono i _ (by omega) (by omega) e
          | false =>
            rw [if_neg (by decide)]
            refine wpS_pure ⟨rfl,rfl,?_,?_,?_,g4,fun i hi hin=>monoF _ i hi hin e⟩
            · show c2≤c2+(c3-c2)/2
              omega
            · show c2+(c3-c2)/2≤n
              omega
            · show c2+(c3-c2)/2-c2≤n-(x+1)
              omega
end
end Srt
namespace Srt
open PySem PyProof.Rows
structure Ord (S:Keyed→Prop)(L:Keyed→Keyed→Bool):Prop where
  asym:∀ x y,L x y=true→L y x=false
  neg:∀ x y z,S x→S y→S z→L x z=true→L x y=true∨L y z=true
abbrev Rise (L:Keyed→Keyed→Bool)(l:List Keyed):Prop:=l.Pairwise fun x y=>L y x=false
section
variable {S:Keyed→Prop}{L:Keyed→Keyed→Bool}
theorem Ord.step (O:Ord S L){x y z:Keyed}(sx:S x)(sy:S y)(sz:S z)(h1:L z y=false)(h2:L y x=false):L z x=false:=by
  cases e:L z x with
  | false=>rfl
  | true =>
    rcases O.neg z y x sz sy sx e with q | q
    · rw [q] at h1;cases h1
    · rw [q] at h2;cases h2
structure MI (L:Keyed→Keyed→Bool)(al bl ol:List Keyed)(ia ib:Nat):Prop where
  perm:ol.Perm (al.take ia++bl.take ib)
  rise:Rise L ol
  lea:∀ x∈ol,∀ y∈al.drop ia,L y x=false
  leb:∀ x∈ol,∀ y∈bl.drop ib,L y x=false
  ha:ia≤al.length
  hb:ib≤bl.length
theorem MI.len {al bl ol:List Keyed}{ia ib:Nat}(h:MI L al bl ol ia ib):ol.length=ia+ib:=by
  rw [h.perm.length_eq,List.length_append,List.length_take,List.length_take]
  have:=h.ha
  have:=h.hb
  omega
theorem take_add' {α:Type}(l:List α)(i k:Nat):l.take (i+k)=l.take i++(l.drop i).take k:=by rw [List.take_add]
theorem drop_sub {α:Type}{l:List α}{i k:Nat}{y:α}(h:y∈l.drop (i+k)):y∈l.drop i:=by
  rw [← List.drop_drop] at h
  exact List.mem_of_mem_drop h
theorem rise_take_drop {l:List Keyed}(h:Rise L l)(i k:Nat):∀ x∈(l.drop i).take k,∀ y∈l.drop (i+k),L y x=false:=by
  intro x hx y hy
  have h2:Rise L (l.drop i):=h.sublist (List.drop_sublist _ _)
  rw [← List.take_append_drop k (l.drop i)] at h2
  rw [← List.drop_drop] at hy
  exact (List.pairwise_append.mp h2).2.2 x hx y hy
theorem MI.takeB {al bl ol:List Keyed}{ia ib:Nat}(h:MI L al bl ol ia ib)(rb:Rise L bl)(k:Nat)(hk:ib+k≤bl.length)(c:∀ y∈(bl.drop ib).take k,∀ z∈al.drop ia,L z y=false):MI L al bl (ol++(bl.drop ib).take k) ia (ib+k) where
  perm:=by
    rw [take_add',← List.append_assoc]
    exact h.perm.append_right _
  rise:=List.pairwise_append.mpr ⟨h.rise,(rb.sublist (List.drop_sublist _ _)).sublist (List.take_sublist _ _),fun x hx y hy=>h.leb x hx y (List.mem_of_mem_take hy)⟩
  lea:=fun x hx y hy=>by
    rcases List.mem_append.mp hx with z | z
    · exact h.lea x z y hy
    · exact c x z y hy
  leb:=fun x hx y hy=>by
    rcases List.mem_append.mp hx with z | z
    · exact h.leb x z y (drop_sub hy)
    · exact rise_take_drop rb ib k x z y hy
  ha:=h.ha
  hb:=hk
theorem MI.takeA {al bl ol:List Keyed}{ia ib:Nat}(h:MI L al bl ol ia ib)(ra:Rise L al)(k:Nat)(hk:ia+k≤al.length)(c:∀ y∈(al.drop ia).take k,∀ z∈bl.drop ib,L z y=false):MI L al bl (ol++(al.drop ia).take k) (ia+k) ib where
  perm:=by
    rw [take_add']
    refine (h.perm.append_right _).trans ?_
    rw [List.append_assoc,List.append_assoc]
    exact List.Perm.append_left _ List.perm_append_comm
  rise:=List.pairwise_append.mpr ⟨h.rise,(ra.sublist (List.drop_sublist _ _)).sublist (List.take_sublist _ _),fun x hx y hy=>h.lea x hx y (List.mem_of_mem_take hy)⟩
  lea:=fun x hx y hy=>by
    rcases List.mem_append.mp hx with z | z
    · exact h.lea x z y (drop_sub hy)
    · exact rise_take_drop ra ia k x z y hy
  leb:=fun x hx y hy=>by
    rcases List.mem_append.mp hx with z | z
    · exact h.leb x z y hy
    · exact c x z y hy
  ha:=hk
  hb:=h.hb
abbrev Mrg (L:Keyed→Keyed→Bool)(al bl ol:List Keyed):Prop:=ol.Perm (al++bl)∧Rise L ol
theorem MI.doneA {al bl ol:List Keyed}{ia:Nat}(h:MI L al bl ol ia bl.length)(ra:Rise L al):Mrg L al bl (ol++al.drop ia):=by
  constructor
  · refine (h.perm.append_right _).trans ?_
    rw [List.take_of_length_le (Nat.le_refl _),List.append_assoc]
    refine (List.Perm.append_left _ List.perm_append_comm).trans ?_
    rw [← List.append_assoc,List.take_append_drop]
  · exact List.pairwise_append.mpr ⟨h.rise,ra.sublist (List.drop_sublist _ _),h.lea⟩
theorem MI.doneB {al bl ol:List Keyed}{ib:Nat}(h:MI L al bl ol al.length ib)(rb:Rise L bl):Mrg L al bl (ol++bl.drop ib):=by
  constructor
  · refine (h.perm.append_right _).trans ?_
    rw [List.take_of_length_le (Nat.le_refl al.length),List.append_assoc,List.take_append_drop]
  · exact List.pairwise_append.mpr ⟨h.rise,rb.sublist (List.drop_sublist _ _),h.leb⟩
theorem MI.lastA {al bl ol:List Keyed}{ia ib:Nat}(h:MI L al bl ol ia ib)(ra:Rise L al)(rb:Rise L bl)(c:∀ y∈bl.drop ib,∀ z∈al.drop ia,L z y=false):Mrg L al bl (ol++bl.drop ib++al.drop ia):=by
  constructor
  · refine ((h.perm.append_right _).append_right _).trans ?_
    have e:al.take ia++bl.take ib++bl.drop ib++al.drop ia=al.take ia++(bl++al.drop ia):=by
      rw [List.append_assoc (al.take ia),List.take_append_drop,List.append_assoc]
    rw [e]
    refine (List.Perm.append_left _ List.perm_append_comm).trans ?_
    rw [← List.append_assoc,List.take_append_drop]
  · refine List.pairwise_append.mpr ⟨List.pairwise_append.mpr ⟨h.rise,rb.sublist (List.drop_sublist _ _),h.leb⟩,ra.sublist (List.drop_sublist _ _),fun x hx y hy=>?_⟩
    rcases List.mem_append.mp hx with z | z
    · exact h.lea x z y hy
    · exact c x z y hy
end
def mergeLo':Array Keyed→Array Keyed→StateT SortSt Sem (Array Keyed):=sortPriv% PySem.Builtin.mergeLo
def setMinGallop':Nat→StateT SortSt Sem Unit:=sortPriv% PySem.Builtin.setMinGallop
theorem setMinGallop'_eq (g:Nat):setMinGallop' g=modify fun s=>SortSt.mk' (kindOf s) (arrOf s) (pendingOf s) g (failedOf s):=rfl
structure Sm (st st':SortSt):Prop where
  kind:kindOf st'=kindOf st
  arr:arrOf st'=arrOf st
  pend:pendingOf st'=pendingOf st
  failed:failedOf st'=failedOf st
section
variable {M:Model}{A:Around}{E:Value→Shared→Prop}{s:Shared}{kd:SortKind}{S:Keyed→Prop}{L:Keyed→Keyed→Bool}
theorem Cmp.ord (C:Cmp M A E s kd S L):Ord S L:=⟨C.asym,C.neg⟩
theorem drop_get {a:Array Keyed}{i:Nat}(h:i<a.size):a.toList.drop i=a[i]::a.toList.drop (i+1):=by
  rw [List.drop_eq_getElem_cons (by simpa using h)]
  simp
theorem mem_arr {a:Array Keyed}{i:Nat}(h:i<a.size):a[i]∈a.toList:=by simp
theorem head_le {a:Array Keyed}{i:Nat}(ra:Rise L a.toList)(h:i<a.size):∀ z∈a.toList.drop (i+1),L z a[i]=false:=by
  intro z hz
  have h2:Rise L (a.toList.drop i):=ra.sublist (List.drop_sublist _ _)
  rw [drop_get h] at h2
  exact (List.pairwise_cons.mp h2).1 z hz
theorem all_le (O:Ord S L){a:Array Keyed}{i:Nat}(sa:∀ x∈a.toList,S x)(ra:Rise L a.toList)(h:i<a.size){y:Keyed}(sy:S y)(c:L a[i] y=false):∀ z∈a.toList.drop i,L z y=false:=by
  intro z hz
  rw [drop_get h] at hz
  rcases List.mem_cons.mp hz with e | e
  · rw [e]
    exact c
  · exact O.step sy (sa _ (mem_arr h)) (sa _ (List.mem_of_mem_drop e)) (head_le ra h z e) c
variable {a b out:Array Keyed}{ia ib k:Nat}
theorem MI.pushB (O:Ord S L)(m:MI L a.toList b.toList out.toList ia ib)(sa:∀ x∈a.toList,S x)(sb:∀ x∈b.toList,S x)(ra:Rise L a.toList)(rb:Rise L b.toList)(hia:ia<a.size)(hib:ib<b.size)(c:L a[ia] b[ib]=false) :
    MI L a.toList b.toList (out.push b[ib]).toList ia (ib+1):=by
  have e:(b.toList.drop ib).take 1=[b[ib]]:=by rw [drop_get hib];rfl
  have:=m.takeB rb 1 (by simp;omega) (by
    rw [e]
    intro y hy z hz
    have hy:y=b[ib]:=by simpa using hy
    subst hy
    exact all_le O sa ra hia (sb _ (mem_arr hib)) c z hz)
  rw [e] at this
  rw [Array.toList_push]
  exact this
theorem MI.pushA (O:Ord S L)(m:MI L a.toList b.toList out.toList ia ib)(sa:∀ x∈a.toList,S x)(sb:∀ x∈b.toList,S x)(ra:Rise L a.toList)(rb:Rise L b.toList)(hia:ia<a.size)(hib:ib<b.size)(c:L b[ib] a[ia]=false) :
    MI L a.toList b.toList (out.push a[ia]).toList (ia+1) ib:=by
  have e:(a.toList.drop ia).take 1=[a[ia]]:=by rw [drop_get hia];rfl
  have:=m.takeA ra 1 (by simp;omega) (by
    rw [e]
    intro y hy z hz
    have hy:y=a[ia]:=by simpa using hy
    subst hy
    exact all_le O sb rb hib (sa _ (mem_arr hia)) c z hz)
  rw [e] at this
  rw [Array.toList_push]
  exact this
theorem ext_list (a:Array Keyed)(i k:Nat):(a.extract i (i+k)).toList=(a.toList.drop i).take k:=by
  simp [List.extract_eq_take_drop]
theorem ext_all (a:Array Keyed)(i:Nat):(a.extract i a.size).toList=a.toList.drop i:=by
  simp only [Array.toList_extract,List.extract_eq_take_drop]
  exact List.take_of_length_le (by simp)
theorem mem_take_drop {a:Array Keyed}{i k:Nat}{x:Keyed}(h:x∈(a.toList.drop i).take k):∃ j,j<k∧∃ q:i+j<a.size,x=a[i+j]:=by
  obtain ⟨j,hj,e⟩:=List.mem_iff_getElem.mp h
  rw [List.length_take,List.length_drop] at hj
  have:i+j<a.size:=by simp at hj;omega
  refine ⟨j,by omega,this,?_⟩
  rw [← e]
  simp
theorem MI.extA (O:Ord S L)(m:MI L a.toList b.toList out.toList ia ib)(sa:∀ x∈a.toList,S x)(sb:∀ x∈b.toList,S x)(ra:Rise L a.toList)(rb:Rise L b.toList)(hib:ib<b.size)(hk:ia+k≤a.size)(c:∀ i,i<k→pb L false b[ib] a ia i=true) :
    MI L a.toList b.toList (out++a.extract ia (ia+k)).toList (ia+k) ib:=by
  rw [Array.toList_append,ext_list]
  refine m.takeA ra k (by simpa using hk) fun y hy z hz=>?_
  obtain ⟨j,hj,q,rfl⟩:=mem_take_drop hy
  have:=c j hj
  unfold pb at this
  rw [getElem?_pos a (ia+j) q] at this
  simp only [Bool.false_eq_true,if_false,Bool.not_eq_true'] at this
  exact all_le O sb rb hib (sa _ (mem_arr q)) this z hz
theorem MI.extB (O:Ord S L)(m:MI L a.toList b.toList out.toList ia ib)(sa:∀ x∈a.toList,S x)(sb:∀ x∈b.toList,S x)(ra:Rise L a.toList)(rb:Rise L b.toList)(hia:ia<a.size)(hk:ib+k≤b.size)(c:∀ i,i<k→pb L true a[ia] b ib i=true) :
    MI L a.toList b.toList (out++b.extract ib (ib+k)).toList ia (ib+k):=by
  rw [Array.toList_append,ext_list]
  refine m.takeB rb k (by simpa using hk) fun y hy z hz=>?_
  obtain ⟨j,hj,q,rfl⟩:=mem_take_drop hy
  have:=c j hj
  unfold pb at this
  rw [getElem?_pos b (ib+j) q] at this
  simp only [if_true] at this
  exact all_le O sa ra hia (sb _ (mem_arr q)) (O.asym _ _ this) z hz
theorem MI.finA (m:MI L a.toList b.toList out.toList ia ib)(ra:Rise L a.toList)(e:ib=b.size):Mrg L a.toList b.toList (out++a.extract ia a.size++b.extract ib b.size).toList:=by
  have e1:ib=b.toList.length:=by simpa using e
  subst e1
  rw [Array.toList_append,Array.toList_append,ext_all,ext_all,List.drop_of_length_le (Nat.le_refl _),List.append_nil]
  exact m.doneA ra
theorem MI.finB (m:MI L a.toList b.toList out.toList ia ib)(rb:Rise L b.toList)(e:ia=a.size):Mrg L a.toList b.toList (out++a.extract ia a.size++b.extract ib b.size).toList:=by
  have e1:ia=a.toList.length:=by simpa using e
  subst e1
  rw [Array.toList_append,Array.toList_append,ext_all,ext_all,List.drop_of_length_le (Nat.le_refl a.toList.length),List.append_nil]
  exact m.doneB rb
theorem MI.finL (m:MI L a.toList b.toList out.toList ia ib)(ra:Rise L a.toList)(rb:Rise L b.toList)(e:ia+1=a.size)(hl:∀ z∈a.toList.drop (a.size-1),∀ y∈b.toList,L z y=false) :
    Mrg L a.toList b.toList (out++b.extract ib b.size++a.extract ia a.size).toList:=by
  rw [Array.toList_append,Array.toList_append,ext_all,ext_all]
  refine m.lastA ra rb fun y hy z hz=>hl z (by rw [← e];exact hz) y (List.mem_of_mem_drop hy)
structure MS (L:Keyed→Keyed→Bool)(st:SortSt)(a b out:Array Keyed)(ia ib:Nat)(st':SortSt):Prop where
  sm:Sm st st'
  mi:MI L a.toList b.toList out.toList ia ib
  ha:ia+1<a.size
  hb:ib<b.size
theorem MI.size {a b out:Array Keyed}{ia ib:Nat}(m:MI L a.toList b.toList out.toList ia ib):out.size=ia+ib:=by
  have:=m.len
  simpa using this
theorem Sm.refl (st:SortSt):Sm st st:=⟨rfl,rfl,rfl,rfl⟩
theorem Sm.gal {st st':SortSt}(h:Sm st st')(g:Nat):Sm st (SortSt.mk' (kindOf st') (arrOf st') (pendingOf st') g (failedOf st')):=⟨h.kind,h.arr,h.pend,h.failed⟩
theorem wpS_setGallop {g:Nat}{st:SortSt}{Q:Unit→SortSt→Prop}(h:Q () (SortSt.mk' (kindOf st) (arrOf st) (pendingOf st) g (failedOf st))):wpS M A E s (setMinGallop' g) Q st:=by
  rw [setMinGallop'_eq]
  exact wpS_modify h
theorem pb_mono_r (O:Ord S L){a:Array Keyed}{ia n:Nat}{key:Keyed}(sa:∀ x∈a.toList,S x)(ra:Rise L a.toList)(sk:S key)(hn:ia+n≤a.size):∀ i j,i≤j→j<n→pb L false key a ia j=true→pb L false key a ia i=true:=by
  intro i j hij hj h
  unfold pb at *
  rw [getElem?_pos a (ia+j) (by omega)] at h
  rw [getElem?_pos a (ia+i) (by omega)]
  simp only [Bool.false_eq_true,if_false,Bool.not_eq_true'] at h ⊢
  rcases Nat.lt_or_ge i j with q | q
  · have:=head_le ra (i:=ia+i) (by omega) (a[ia+j]'(by omega)) (List.mem_iff_getElem.mpr ⟨j-i-1,by simp;omega,by simp;congr 1;omega⟩)
    exact O.step (sa _ (mem_arr _)) (sa _ (mem_arr _)) sk h this
  · have:i=j:=by omega
    subst this
    exact h
theorem pb_mono_l (O:Ord S L){a:Array Keyed}{ia n:Nat}{key:Keyed}(sa:∀ x∈a.toList,S x)(ra:Rise L a.toList)(sk:S key)(hn:ia+n≤a.size):∀ i j,i≤j→j<n→pb L true key a ia j=true→pb L true key a ia i=true:=by
  intro i j hij hj h
  unfold pb at *
  rw [getElem?_pos a (ia+j) (by omega)] at h
  rw [getElem?_pos a (ia+i) (by omega)]
  simp only [if_true] at h ⊢
  rcases Nat.lt_or_ge i j with q | q
  · have:=head_le ra (i:=ia+i) (by omega) (a[ia+j]'(by omega)) (List.mem_iff_getElem.mpr ⟨j-i-1,by simp;omega,by simp;congr 1;omega⟩)
    rcases O.neg _ _ _ (sa _ (mem_arr _)) (sa _ (mem_arr (i:=ia+i) (by omega))) sk h with z | z
    · rw [this] at z
      cases z
    · exact z
  · have:i=j:=by omega
    subst this
    exact h
theorem pb_f {a:Array Keyed}{ia i:Nat}{key:Keyed}(q:ia+i<a.size):pb L false key a ia i=!L key a[ia+i]:=by
  unfold pb
  rw [getElem?_pos a (ia+i) q]
  rfl
theorem pb_t {a:Array Keyed}{ia i:Nat}{key:Keyed}(q:ia+i<a.size):pb L true key a ia i=L a[ia+i] key:=by
  unfold pb
  rw [getElem?_pos a (ia+i) q]
  rfl
theorem wpS_jp1 {α β γ:Type}{X:StateT SortSt Sem α}{Q:α→SortSt→Prop}{st:SortSt}(v:β→γ→StateT SortSt Sem α)(hv:∀ q x,wpS M A E s (v q x) Q st)(h:(∀ q x,wpS M A E s (v q x) Q st)→wpS M A E s X Q st):wpS M A E s X Q st:=h hv
theorem wpS_jp2 {α β γ δ:Type}{X:StateT SortSt Sem α}{Q:α→SortSt→Prop}{st:SortSt}(v:β→γ→δ→StateT SortSt Sem α)(P:γ→δ→Prop)(hv:∀ q x y,P x y→wpS M A E s (v q x y) Q st)(h:(∀ q x y,P x y→wpS M A E s (v q x y) Q st)→wpS M A E s X Q st):wpS M A E s X Q st:=h hv
theorem wpS_mergeLo (C:Cmp M A E s kd S L) {a b:Array Keyed} {st:SortSt} {Q:Array Keyed→SortSt→Prop} (hk:kindOf st=kd) (sa:∀ x∈a.toList,S x) (sb:∀ x∈b.toList,S x) (ra:Rise L a.toList) (rb:Rise L b.toList) (na:0<a.size) (nb:0<b.size)
    (h0:∀ z∈a.toList,L z b[0]=false) (hl:∀ z∈a.toList.drop (a.size-1),∀ y∈b.toList,L z y=false)
    (h:∀ o st',Sm st st'→Mrg L a.toList b.toList o.toList→Q o st'):wpS M A E s (mergeLo' a b) Q st:=by
  have O:=C.ord
  unfold mergeLo'
  k_delta "mergeLo"
  refine wpS_bind (wpS_lift (wpAny_rule ⟨rfl,?_⟩))
  refine wpS_bind (wpS_elem (getElem?_pos b 0 nb) ?_)
  dsimp -zeta only
  have nil:MI L a.toList b.toList (#[]:Array Keyed).toList 0 0:=⟨by simp,.nil,fun _ z=>by simp at z,fun _ z=>by simp at z,Nat.zero_le _,Nat.zero_le _⟩
  have ini:MI L a.toList b.toList (#[b[0]]:Array Keyed).toList 0 1:=nil.pushB O sa sb ra rb na nb (h0 _ (mem_arr na))
  by_cases e1:(1==b.size)=true
  · rw [if_pos e1]
    exact wpS_pure (h _ _ (Sm.refl _) (ini.finA ra (by simpa using e1)))
  rw [if_neg e1]
  by_cases e2:(0+1==a.size)=true
  · rw [if_pos e2]
    exact wpS_pure (h _ _ (Sm.refl _) (ini.finL ra rb (by simpa using e2) hl))
  rw [if_neg e2]
  have e1':1<b.size:=by
    have:1≠b.size:=by simpa using e1
    omega
  have e2':1<a.size:=by
    have:1≠a.size:=by simpa using e2
    omega
  refine wpS_bind (wpS_get ?_)
  refine wpS_bind (wpS_mono (wpS_forRange (I:=fun x c st'=>c.1=none∧MS L st a b c.2.1 c.2.2.1 c.2.2.2.1 st'∧x+1≤c.2.1.size) (Q:=fun c st'=>∃ o,c.1=some o∧Sm st st'∧Mrg L a.toList b.toList o.toList) ?step ?fin ?init) ?post)
  case init=>exact ⟨rfl,⟨Sm.refl _,ini,e2',e1'⟩,by simp⟩
  case fin =>
    rintro ⟨c1,out,ia,ib,g⟩ st' ⟨_,ms,hs⟩
    dsimp only at *
    have:=ms.mi.size
    have:=ms.ha
    have:=ms.hb
    omega
  case post =>
    rintro ⟨c1,out,ia,ib,g⟩ st' ⟨o,rfl,sm,m⟩
    exact wpS_pure (h _ _ sm m)
  case step =>
    rintro x ⟨c1,out,ia,ib,g⟩ st' _ hx ⟨rfl,ms,hs⟩
    dsimp -zeta only at *
    refine wpS_bind (wpS_mono (wpS_forRange (I:=fun _ c st'=>c.1=none∧MS L st a b c.2.1 c.2.2.1 c.2.2.2.1 st'∧x+1≤c.2.1.size)
      (Q:=fun c st'=>(∃ o,c.1=some o∧Sm st st'∧Mrg L a.toList b.toList o.toList)∨(c.1=none∧MS L st a b c.2.1 c.2.2.1 c.2.2.2.1 st'∧x+1≤c.2.1.size)) ?step1 (fun _ _ z=>.inr z) ?init1) ?post1)
    case init1=>exact ⟨rfl,ms,hs⟩
    case step1 =>
      rintro y ⟨c1,out,ia,ib,ac,bc⟩ st' _ hy ⟨rfl,ms,hs⟩
      dsimp only at *
      have hib:=ms.hb
      have hia:ia<a.size:=by have:=ms.ha;omega
      refine wpS_bind (wpS_elem (getElem?_pos b ib hib) ?_)
      refine wpS_bind (wpS_elem (getElem?_pos a ia hia) ?_)
      refine wpS_bind (C.lt _ _ _ _ (sb _ (mem_arr hib)) (sa _ (mem_arr hia)) (ms.sm.kind.trans hk) ?_)
      dsimp only
      cases e:L b[ib] a[ia] with
      | true =>
        rw [if_pos rfl]
        refine wpS_bind (wpS_elem (getElem?_pos b ib hib) ?_)
        have m2:=ms.mi.pushB O sa sb ra rb hia hib (C.asym _ _ e)
        by_cases z:(ib+1==b.size)=true
        · rw [if_pos z]
          exact wpS_pure (.inl ⟨_,rfl,ms.sm,m2.finA ra (by simpa using z)⟩)
        · rw [if_neg z]
          have z':ib+1<b.size:=by
            have:ib+1≠b.size:=by simpa using z
            omega
          split
          · exact wpS_pure (.inr ⟨rfl,⟨ms.sm,m2,ms.ha,z'⟩,by simp;omega⟩)
          · exact wpS_pure ⟨rfl,⟨ms.sm,m2,ms.ha,z'⟩,by simp;omega⟩
      | false =>
        rw [if_neg (by decide)]
        refine wpS_bind (wpS_elem (getElem?_pos a ia hia) ?_)
        have m2:=ms.mi.pushA O sa sb ra rb hia hib e
        by_cases z:(ia+1+1==a.size)=true
        · rw [if_pos z]
          exact wpS_pure (.inl ⟨_,rfl,ms.sm,m2.finL ra rb (by simpa using z) hl⟩)
        · rw [if_neg z]
          have z':ia+1+1<a.size:=by
            have:ia+1+1≠a.size:=by simpa using z
            have:=ms.ha
            omega
          split
          · exact wpS_pure (.inr ⟨rfl,⟨ms.sm,m2,z',hib⟩,by simp;omega⟩)
          · exact wpS_pure ⟨rfl,⟨ms.sm,m2,z',hib⟩,by simp;omega⟩
    case post1 =>
      rintro ⟨c1,out,ia,ib,ac,bc⟩ st' (⟨o,rfl,sm,m⟩ | ⟨rfl,ms,hs⟩)
      · exact wpS_pure ⟨o,rfl,sm,m⟩
      · dsimp -zeta only at *
        refine wpS_bind (wpS_lift (wpAny_rule ⟨rfl,?_⟩))
        refine wpS_bind (wpS_mono (wpS_forRange (I:=fun y c st'=>c.1=none∧MS L st a b c.2.1 c.2.2.1 c.2.2.2.1 st'∧x+1+y≤c.2.1.size)
          (Q:=fun c st'=>(∃ o,c.1=some o∧Sm st st'∧Mrg L a.toList b.toList o.toList)∨(c.1=none∧MS L st a b c.2.1 c.2.2.1 c.2.2.2.1 st'∧x+2≤c.2.1.size)) ?step2 ?fin2 ?init2) ?post2)
        case init2=>exact ⟨rfl,ms,hs⟩
        case fin2 =>
          rintro ⟨c1,out,ia,ib,g,ac,bc⟩ st' ⟨e,ms,hs⟩
          refine .inr ⟨e,ms,?_⟩
          dsimp only at *
          omega
        case post2 =>
          rintro ⟨c1,out,ia,ib,g,ac,bc⟩ st' (⟨o,rfl,sm,m⟩ | ⟨rfl,ms,hs⟩)
          · exact wpS_pure ⟨o,rfl,sm,m⟩
          · dsimp only at *
            exact wpS_bind (wpS_setGallop (wpS_pure ⟨rfl,⟨ms.sm.gal _,ms.mi,ms.ha,ms.hb⟩,by dsimp only;omega⟩))
        case step2 =>
          rintro y ⟨c1,out,ia,ib,g,ac,bc⟩ st' _ hy ⟨e3,ms,hs⟩
          dsimp -zeta only at e3 ms hs ⊢
          subst e3
          have hib:=ms.hb
          have hia:=ms.ha
          extract_lets +onlyGivenNames -underBinder s1 n1 s2 n2 s3 n3 s4 n4 s5 n5 n6 jp
          refine wpS_jp1 jp (fun _ g=>?_) fun hj=>by clear_value jp;split<;>exact hj _ _
          dsimp -zeta only [s1,s2,s3,s4,s5,n1,n2,n3,n4,n5,n6,jp]
          clear jp s1 s2 s3 s4 s5 n1 n2 n3 n4 n5 n6
          refine wpS_bind (wpS_setGallop ?_)
          refine wpS_bind (wpS_elem (getElem?_pos b ib hib) ?_)
          refine wpS_bind (wpS_gallop C (ms.sm.kind.trans hk) (sb _ (mem_arr hib)) sa (by omega) (by omega) (pb_mono_r O sa ra (sb _ (mem_arr hib)) (by omega)) fun k1 hk1 ht1 hf1=>?_)
          dsimp -zeta only
          extract_lets +onlyGivenNames -underBinder ac jp
          refine wpS_jp2 jp (fun out ia=>∃ h:ia+1<a.size,MI L a.toList b.toList out.toList ia ib∧L (a[ia]'(by omega)) b[ib]=false∧x+1+y≤out.size) ?_ ?_
          · rintro _ out ia ⟨ha,m1,nx,hs⟩
            dsimp -zeta only [jp]
            clear jp
            refine wpS_bind (wpS_elem (getElem?_pos b ib hib) ?_)
            have m2:=m1.pushB O sa sb ra rb (by omega) hib nx
            extract_lets +onlyGivenNames -underBinder ou n1
            by_cases z3:(ib+1==b.size)=true
            · rw [if_pos z3]
              exact wpS_pure (.inl ⟨_,rfl,ms.sm.gal _,m2.finA ra (by simpa using z3)⟩)
            rw [if_neg z3]
            have z3':ib+1<b.size:=by
              have:ib+1≠b.size:=by simpa using z3
              omega
            refine wpS_bind (wpS_elem (getElem?_pos a ia (by omega)) ?_)
            refine wpS_bind (wpS_gallop C (ms.sm.kind.trans hk) (sa _ (mem_arr (by omega))) sb (by omega) (by omega) (pb_mono_l O sb rb (sa _ (mem_arr (by omega))) (by omega)) fun k2 hk2 ht2 hf2=>?_)
            dsimp -zeta only
            extract_lets +onlyGivenNames -underBinder bc jp
            refine wpS_jp2 jp (fun ou ib=>∃ h:ib<b.size,MI L a.toList b.toList ou.toList ia ib∧L b[ib] (a[ia]'(by omega))=false∧x+2+y≤ou.size) ?_ ?_
            · rintro _ ou ib ⟨hb,m3,nx2,hs⟩
              dsimp -zeta only [jp]
              clear jp
              refine wpS_bind (wpS_elem (getElem?_pos a ia (by omega)) ?_)
              have m4:=m3.pushA O sa sb ra rb (by omega) hb nx2
              dsimp only
              by_cases z5:(ia+1+1==a.size)=true
              · rw [if_pos z5]
                exact wpS_pure (.inl ⟨_,rfl,ms.sm.gal _,m4.finL ra rb (by simpa using z5) hl⟩)
              rw [if_neg z5]
              have z5':ia+1+1<a.size:=by
                have:ia+1+1≠a.size:=by simpa using z5
                omega
              split
              · exact wpS_pure (.inr ⟨rfl,⟨ms.sm.gal _,m4,z5',hb⟩,by simp;omega⟩)
              · exact wpS_pure ⟨rfl,⟨ms.sm.gal _,m4,z5',hb⟩,by simp;omega⟩
            clear_value jp
            intro hj
            by_cases kz:k2 > 0
            · rw [if_pos kz]
              have m3:=m2.extB (k:=k2) O sa sb ra rb (by omega) (by omega) ht2
              dsimp only
              by_cases z4:(ib+1+k2==b.size)=true
              · rw [if_pos z4]
                exact wpS_pure (.inl ⟨_,rfl,ms.sm.gal _,m3.finA ra (by simpa using z4)⟩)
              rw [if_neg z4]
              have:ib+1+k2≠b.size:=by simpa using z4
              have nx2:=hf2 k2 (Nat.le_refl _) (by omega)
              rw [pb_t (by omega)] at nx2
              exact hj _ _ _ ⟨by omega,m3,nx2,by simp [ou];omega⟩
            · rw [if_neg kz]
              have nx2:=hf2 0 (by omega) (by omega)
              rw [pb_t (by omega)] at nx2
              exact hj _ _ _ ⟨by omega,m2,nx2,by simp [ou];omega⟩
          clear_value jp
          intro hj
          by_cases kz:k1 > 0
          · rw [if_pos kz]
            have m1:=ms.mi.extA (k:=k1) O sa sb ra rb hib (by omega) ht1
            dsimp only
            by_cases z1:(ia+k1+1==a.size)=true
            · rw [if_pos z1]
              exact wpS_pure (.inl ⟨_,rfl,ms.sm.gal _,m1.finL ra rb (by simpa using z1) hl⟩)
            rw [if_neg z1]
            by_cases z2:(ia+k1==a.size)=true
            · rw [if_pos z2]
              exact wpS_pure (.inl ⟨_,rfl,ms.sm.gal _,m1.finB rb (by simpa using z2)⟩)
            rw [if_neg z2]
            have:ia+k1+1≠a.size:=by simpa using z1
            have:ia+k1≠a.size:=by simpa using z2
            have nx:=hf1 k1 (Nat.le_refl _) (by omega)
            rw [pb_f (by omega)] at nx
            exact hj _ _ _ ⟨by omega,m1,C.asym _ _ (by simpa using nx),by simp;omega⟩
          · rw [if_neg kz]
            have nx:=hf1 0 (by omega) (by omega)
            rw [pb_f (by omega)] at nx
            exact hj _ _ _ ⟨hia,ms.mi,C.asym _ _ (by simpa using nx),hs⟩
end
end Srt
namespace Srt
open PySem PyProof.Rows
section
variable {S:Keyed→Prop}{L:Keyed→Keyed→Bool}
structure MH (L:Keyed→Keyed→Bool)(al bl ol:List Keyed)(na nb:Nat):Prop where
  perm:ol.Perm (al.drop na++bl.drop nb)
  rise:Rise L ol
  lea:∀ x∈ol,∀ y∈al.take na,L x y=false
  leb:∀ x∈ol,∀ y∈bl.take nb,L x y=false
  ha:na≤al.length
  hb:nb≤bl.length
theorem MH.len {al bl ol:List Keyed}{na nb:Nat}(h:MH L al bl ol na nb):ol.length+na+nb=al.length+bl.length:=by
  rw [h.perm.length_eq,List.length_append,List.length_drop,List.length_drop]
  have:=h.ha
  have:=h.hb
  omega
theorem take_sub {α:Type}{l:List α}{i n:Nat}{y:α}(hi:i≤n)(h:y∈l.take i):y∈l.take n:=by
  have:l.take i=(l.take n).take i:=by rw [List.take_take,Nat.min_eq_left hi]
  rw [this] at h
  exact List.mem_of_mem_take h
theorem drop_eq' {α:Type}(l:List α){i n:Nat}(h:i≤n):l.drop i=(l.take n).drop i++l.drop n:=by
  rw [List.drop_take]
  have:l.drop n=(l.drop i).drop (n-i):=by rw [List.drop_drop];congr 1;omega
  rw [this,List.take_append_drop]
theorem rise_take_piece {l:List Keyed}(h:Rise L l){i n:Nat}(hi:i≤n):∀ x∈(l.take n).drop i,∀ y∈l.take i,L x y=false:=by
  intro x hx y hy
  have h2:Rise L (l.take n):=h.sublist (List.take_sublist _ _)
  rw [← List.take_append_drop i (l.take n)] at h2
  rw [show l.take i=(l.take n).take i by rw [List.take_take,Nat.min_eq_left hi]] at hy
  exact (List.pairwise_append.mp h2).2.2 y hy x hx
theorem MH.takeA {al bl ol:List Keyed}{na nb:Nat}(h:MH L al bl ol na nb)(ra:Rise L al)(i:Nat)(hi:i≤na)(c:∀ y∈(al.take na).drop i,∀ z∈bl.take nb,L y z=false):MH L al bl ((al.take na).drop i++ol) i nb where
  perm:=by
    rw [drop_eq' al hi,List.append_assoc]
    exact List.Perm.append_left _ h.perm
  rise:=List.pairwise_append.mpr ⟨(ra.sublist (List.take_sublist _ _)).sublist (List.drop_sublist _ _),h.rise,fun x hx y hy=>h.lea y hy x (List.mem_of_mem_drop hx)⟩
  lea:=fun x hx y hy=>by
    rcases List.mem_append.mp hx with z | z
    · exact rise_take_piece ra hi x z y hy
    · exact h.lea x z y (take_sub hi hy)
  leb:=fun x hx y hy=>by
    rcases List.mem_append.mp hx with z | z
    · exact c x z y hy
    · exact h.leb x z y hy
  ha:=Nat.le_trans hi h.ha
  hb:=h.hb
theorem MH.takeB {al bl ol:List Keyed}{na nb:Nat}(h:MH L al bl ol na nb)(rb:Rise L bl)(i:Nat)(hi:i≤nb)(c:∀ y∈(bl.take nb).drop i,∀ z∈al.take na,L y z=false):MH L al bl ((bl.take nb).drop i++ol) na i where
  perm:=by
    rw [drop_eq' bl hi]
    refine (List.Perm.append_left _ h.perm).trans ?_
    rw [← List.append_assoc,← List.append_assoc]
    exact List.Perm.append_right _ List.perm_append_comm
  rise:=List.pairwise_append.mpr ⟨(rb.sublist (List.take_sublist _ _)).sublist (List.drop_sublist _ _),h.rise,fun x hx y hy=>h.leb y hy x (List.mem_of_mem_drop hx)⟩
  lea:=fun x hx y hy=>by
    rcases List.mem_append.mp hx with z | z
    · exact c x z y hy
    · exact h.lea x z y hy
  leb:=fun x hx y hy=>by
    rcases List.mem_append.mp hx with z | z
    · exact rise_take_piece rb hi x z y hy
    · exact h.leb x z y (take_sub hi hy)
  ha:=h.ha
  hb:=Nat.le_trans hi h.hb
theorem MH.doneB {al bl ol:List Keyed}{nb:Nat}(h:MH L al bl ol 0 nb)(rb:Rise L bl):Mrg L al bl (bl.take nb++ol):=by
  constructor
  · refine (List.Perm.append_left _ h.perm).trans ?_
    rw [List.drop_zero]
    refine (List.Perm.append_left _ List.perm_append_comm).trans ?_
    rw [← List.append_assoc,List.take_append_drop]
    exact List.perm_append_comm
  · exact List.pairwise_append.mpr ⟨rb.sublist (List.take_sublist _ _),h.rise,fun x hx y hy=>h.leb y hy x hx⟩
theorem MH.doneA {al bl ol:List Keyed}{na:Nat}(h:MH L al bl ol na 0)(ra:Rise L al):Mrg L al bl (al.take na++ol):=by
  constructor
  · refine (List.Perm.append_left _ h.perm).trans ?_
    rw [List.drop_zero,← List.append_assoc,List.take_append_drop]
  · exact List.pairwise_append.mpr ⟨ra.sublist (List.take_sublist _ _),h.rise,fun x hx y hy=>h.lea y hy x hx⟩
theorem MH.firstB {al bl ol:List Keyed}{na nb:Nat}(h:MH L al bl ol na nb)(ra:Rise L al)(rb:Rise L bl)(c:∀ y∈bl.take nb,∀ z∈al.take na,L z y=false):Mrg L al bl (bl.take nb++al.take na++ol):=by
  constructor
  · refine (List.Perm.append_left _ h.perm).trans ?_
    have e:bl.take nb++al.take na++(al.drop na++bl.drop nb)=bl.take nb++(al++bl.drop nb):=by
      rw [List.append_assoc,← List.append_assoc (al.take na),List.take_append_drop]
    rw [e]
    refine (List.Perm.append_left _ List.perm_append_comm).trans ?_
    rw [← List.append_assoc,List.take_append_drop]
    exact List.perm_append_comm
  · refine List.pairwise_append.mpr ⟨List.pairwise_append.mpr ⟨rb.sublist (List.take_sublist _ _),ra.sublist (List.take_sublist _ _),c⟩,h.rise,fun x hx y hy=>?_⟩
    rcases List.mem_append.mp hx with z | z
    · exact h.leb y hy x z
    · exact h.lea y hy x z
variable {a b out:Array Keyed}{na nb k:Nat}
theorem take_get {a:Array Keyed}{i:Nat}(h:i<a.size):(a.toList.take (i+1)).drop i=[a[i]]:=by
  rw [List.drop_take,drop_get h,show i+1-i=1 by omega]
  rfl
theorem mem_take' {a:Array Keyed}{n:Nat}{x:Keyed}(h:x∈a.toList.take n):∃ j,j<n∧∃ q:j<a.size,x=a[j]:=by
  have:=mem_take_drop (a:=a) (i:=0) (k:=n) (x:=x) (by simpa using h)
  obtain ⟨j,hj,q,e⟩:=this
  exact ⟨j,hj,by omega,by simpa using e⟩
theorem get_le {a:Array Keyed}(ra:Rise L a.toList)(O:Ord S L){i j:Nat}(hij:i≤j)(hj:j<a.size)(ir:L a[j] a[j]=false):L a[j] (a[i]'(by omega))=false:=by
  rcases Nat.lt_or_ge i j with q | q
  · exact head_le ra (i:=i) (by omega) a[j] (List.mem_iff_getElem.mpr ⟨j-i-1,by simp;omega,by simp;congr 1;omega⟩)
  · have:i=j:=by omega
    subst this
    exact ir
theorem Ord.irr (O:Ord S L)(x:Keyed):L x x=false:=by
  cases e:L x x with
  | false=>rfl
  | true=>rw [O.asym x x e] at e;cases e
theorem all_ge (O:Ord S L)(sa:∀ x∈a.toList,S x)(ra:Rise L a.toList){n:Nat}(hn:n<a.size){y:Keyed}(sy:S y)(c:L y a[n]=false):∀ z∈a.toList.take (n+1),L y z=false:=by
  intro z hz
  obtain ⟨j,hj,q,rfl⟩:=mem_take' hz
  exact O.step (sa _ (mem_arr q)) (sa _ (mem_arr hn)) sy c (get_le ra O (by omega) hn (O.irr _))
theorem rev_push (out:Array Keyed)(x:Keyed):(out.push x).reverse.toList=x::out.reverse.toList:=by simp
theorem rev_app (out p:Array Keyed):(out++p.reverse).reverse.toList=p.toList++out.reverse.toList:=by simp
theorem MH.pushA (O:Ord S L)(m:MH L a.toList b.toList out.reverse.toList (na+1) (nb+1))(sa:∀ x∈a.toList,S x)(sb:∀ x∈b.toList,S x)(ra:Rise L a.toList)(rb:Rise L b.toList)(hna:na<a.size)(hnb:nb<b.size)(c:L a[na] b[nb]=false) :
    MH L a.toList b.toList (out.push a[na]).reverse.toList na (nb+1):=by
  have e:=take_get hna
  have:=m.takeA ra na (Nat.le_succ _) (by
    rw [e]
    intro y hy z hz
    have hy:y=a[na]:=by simpa using hy
    subst hy
    exact all_ge O sb rb hnb (sa _ (mem_arr hna)) c z hz)
  rw [e] at this
  rw [rev_push]
  exact this
theorem MH.pushB (O:Ord S L)(m:MH L a.toList b.toList out.reverse.toList (na+1) (nb+1))(sa:∀ x∈a.toList,S x)(sb:∀ x∈b.toList,S x)(ra:Rise L a.toList)(rb:Rise L b.toList)(hna:na<a.size)(hnb:nb<b.size)(c:L b[nb] a[na]=false) :
    MH L a.toList b.toList (out.push b[nb]).reverse.toList (na+1) nb:=by
  have e:=take_get hnb
  have:=m.takeB rb nb (Nat.le_succ _) (by
    rw [e]
    intro y hy z hz
    have hy:y=b[nb]:=by simpa using hy
    subst hy
    exact all_ge O sa ra hna (sb _ (mem_arr hnb)) c z hz)
  rw [e] at this
  rw [rev_push]
  exact this
theorem ext_piece (a:Array Keyed){i n:Nat}(h:i≤n):(a.extract i n).toList=(a.toList.take n).drop i:=by
  simp only [Array.toList_extract,List.extract_eq_take_drop,List.drop_take]
theorem mem_piece {a:Array Keyed}{i n:Nat}{x:Keyed}(h:x∈(a.toList.take n).drop i):∃ j,i≤j∧j<n∧∃ q:j<a.size,x=a[j]:=by
  rw [List.drop_take] at h
  obtain ⟨j,hj,q,e⟩:=mem_take_drop h
  exact ⟨i+j,by omega,by omega,q,e⟩
theorem MH.extA (O:Ord S L)(m:MH L a.toList b.toList out.reverse.toList na (nb+1))(sa:∀ x∈a.toList,S x)(sb:∀ x∈b.toList,S x)(ra:Rise L a.toList)(rb:Rise L b.toList)(hnb:nb<b.size)(hk:k≤na)(c:∀ i,k≤i→i<na→pb L false b[nb] a 0 i=false) :
    MH L a.toList b.toList (out++(a.extract k na).reverse).reverse.toList k (nb+1):=by
  rw [rev_app,ext_piece a hk]
  refine m.takeA ra k hk fun y hy z hz=>?_
  obtain ⟨j,hj,hj2,q,rfl⟩:=mem_piece hy
  have:=c j hj hj2
  rw [pb_f (by omega)] at this
  have this:L b[nb] a[j]=true:=by simpa using this
  exact all_ge O sb rb hnb (sa _ (mem_arr q)) (O.asym _ _ this) z hz
theorem MH.extB (O:Ord S L)(m:MH L a.toList b.toList out.reverse.toList (na+1) nb)(sa:∀ x∈a.toList,S x)(sb:∀ x∈b.toList,S x)(ra:Rise L a.toList)(rb:Rise L b.toList)(hna:na<a.size)(hk:k≤nb)(c:∀ i,k≤i→i<nb→pb L true a[na] b 0 i=false) :
    MH L a.toList b.toList (out++(b.extract k nb).reverse).reverse.toList (na+1) k:=by
  rw [rev_app,ext_piece b hk]
  refine m.takeB rb k hk fun y hy z hz=>?_
  obtain ⟨j,hj,hj2,q,rfl⟩:=mem_piece hy
  have:=c j hj hj2
  rw [pb_t (by omega)] at this
  have this:L b[j] a[na]=false:=by simpa using this
  exact all_ge O sa ra hna (sb _ (mem_arr q)) this z hz
theorem ext0 (a:Array Keyed)(n:Nat):(a.extract 0 n).toList=a.toList.take n:=by rw [ext_piece a (Nat.zero_le n),List.drop_zero]
theorem MH.fin0 (m:MH L a.toList b.toList out.reverse.toList na nb)(rb:Rise L b.toList)(e:na=0):Mrg L a.toList b.toList (a.extract 0 na++b.extract 0 nb++out.reverse).toList:=by
  subst e
  rw [Array.toList_append,Array.toList_append,ext0,ext0,List.take_zero,List.nil_append]
  exact m.doneB rb
theorem MH.fin0b (m:MH L a.toList b.toList out.reverse.toList na nb)(ra:Rise L a.toList)(e:nb=0):Mrg L a.toList b.toList (a.extract 0 na++b.extract 0 nb++out.reverse).toList:=by
  subst e
  rw [Array.toList_append,Array.toList_append,ext0,ext0,List.take_zero,List.append_nil]
  exact m.doneA ra
theorem MH.fin1 (m:MH L a.toList b.toList out.reverse.toList na nb)(ra:Rise L a.toList)(rb:Rise L b.toList)(e:nb=1)(h0:∀ z∈a.toList,∀ y∈b.toList.take 1,L z y=false):Mrg L a.toList b.toList (b.extract 0 nb++a.extract 0 na++out.reverse).toList:=by
  subst e
  rw [Array.toList_append,Array.toList_append,ext0,ext0]
  exact m.firstB ra rb fun y hy z hz=>h0 z (List.mem_of_mem_take hz) y hy
theorem MH.size (m:MH L a.toList b.toList out.reverse.toList na nb):out.size+na+nb=a.size+b.size:=by
  have:=m.len
  simpa using this
end
def mergeHi':Array Keyed→Array Keyed→StateT SortSt Sem (Array Keyed):=sortPriv% PySem.Builtin.mergeHi
section
variable {M:Model}{A:Around}{E:Value→Shared→Prop}{s:Shared}{kd:SortKind}{S:Keyed→Prop}{L:Keyed→Keyed→Bool}
structure MHS (L:Keyed→Keyed→Bool)(st:SortSt)(a b out:Array Keyed)(na nb:Nat)(st':SortSt):Prop where
  sm:Sm st st'
  mi:MH L a.toList b.toList out.reverse.toList na nb
  ha:0<na
  hb:1<nb
theorem pb0_f {a:Array Keyed}{i:Nat}{key:Keyed}(q:i<a.size):pb L false key a 0 i=!L key a[i]:=by
  unfold pb
  rw [Nat.zero_add,getElem?_pos a i q]
  rfl
theorem pb0_t {a:Array Keyed}{i:Nat}{key:Keyed}(q:i<a.size):pb L true key a 0 i=L a[i] key:=by
  unfold pb
  rw [Nat.zero_add,getElem?_pos a i q]
  rfl
variable {a b out:Array Keyed}{na nb k:Nat}
theorem MH.hA (m:MH L a.toList b.toList out.reverse.toList na nb):na≤a.size:=by simpa using m.ha
theorem MH.hB (m:MH L a.toList b.toList out.reverse.toList na nb):nb≤b.size:=by simpa using m.hb
theorem MH.putA (O:Ord S L)(m:MH L a.toList b.toList out.reverse.toList na nb)(sa:∀ x∈a.toList,S x)(sb:∀ x∈b.toList,S x)(ra:Rise L a.toList)(rb:Rise L b.toList)(hna:0<na)(hnb:0<nb)(qa:na-1<a.size)(qb:nb-1<b.size)(c:L a[na-1] b[nb-1]=false) :
    MH L a.toList b.toList (out.push a[na-1]).reverse.toList (na-1) nb:=by
  obtain ⟨i,rfl⟩:∃ i,na=i+1:=⟨na-1,by omega⟩
  obtain ⟨j,rfl⟩:∃ j,nb=j+1:=⟨nb-1,by omega⟩
  exact m.pushA O sa sb ra rb qa qb c
theorem MH.putB (O:Ord S L)(m:MH L a.toList b.toList out.reverse.toList na nb)(sa:∀ x∈a.toList,S x)(sb:∀ x∈b.toList,S x)(ra:Rise L a.toList)(rb:Rise L b.toList)(hna:0<na)(hnb:0<nb)(qa:na-1<a.size)(qb:nb-1<b.size)(c:L b[nb-1] a[na-1]=false) :
    MH L a.toList b.toList (out.push b[nb-1]).reverse.toList na (nb-1):=by
  obtain ⟨i,rfl⟩:∃ i,na=i+1:=⟨na-1,by omega⟩
  obtain ⟨j,rfl⟩:∃ j,nb=j+1:=⟨nb-1,by omega⟩
  exact m.pushB O sa sb ra rb qa qb c
theorem MH.putAs (O:Ord S L)(m:MH L a.toList b.toList out.reverse.toList na nb)(sa:∀ x∈a.toList,S x)(sb:∀ x∈b.toList,S x)(ra:Rise L a.toList)(rb:Rise L b.toList)(hnb:0<nb)(qb:nb-1<b.size)(hk:k≤na)(c:∀ i,k≤i→i<na→pb L false b[nb-1] a 0 i=false) :
    MH L a.toList b.toList (out++(a.extract k na).reverse).reverse.toList k nb:=by
  obtain ⟨j,rfl⟩:∃ j,nb=j+1:=⟨nb-1,by omega⟩
  exact m.extA O sa sb ra rb qb hk c
theorem MH.putBs (O:Ord S L)(m:MH L a.toList b.toList out.reverse.toList na nb)(sa:∀ x∈a.toList,S x)(sb:∀ x∈b.toList,S x)(ra:Rise L a.toList)(rb:Rise L b.toList)(hna:0<na)(qa:na-1<a.size)(hk:k≤nb)(c:∀ i,k≤i→i<nb→pb L true a[na-1] b 0 i=false) :
    MH L a.toList b.toList (out++(b.extract k nb).reverse).reverse.toList na k:=by
  obtain ⟨j,rfl⟩:∃ j,na=j+1:=⟨na-1,by omega⟩
  exact m.extB O sa sb ra rb qa hk c
theorem wpS_mergeHi (C:Cmp M A E s kd S L) {a b:Array Keyed} {st:SortSt} {Q:Array Keyed→SortSt→Prop} (hk:kindOf st=kd) (sa:∀ x∈a.toList,S x) (sb:∀ x∈b.toList,S x) (ra:Rise L a.toList) (rb:Rise L b.toList) (na:0<a.size) (nb:0<b.size)
    (h0:∀ z∈a.toList,∀ y∈b.toList.take 1,L z y=false) (hl:∀ y∈b.toList,L (a[a.size-1]'(by omega)) y=false)
    (h:∀ o st',Sm st st'→Mrg L a.toList b.toList o.toList→Q o st'):wpS M A E s (mergeHi' a b) Q st:=by
  have O:=C.ord
  unfold mergeHi'
  k_delta "mergeHi"
  refine wpS_bind (wpS_lift (wpAny_rule ⟨rfl,?_⟩))
  refine wpS_bind (wpS_elem (getElem?_pos a (a.size-1) (by omega)) ?_)
  dsimp -zeta only
  have nil:MH L a.toList b.toList (#[]:Array Keyed).reverse.toList a.size b.size:=⟨by simp,.nil,fun _ z=>by simp at z,fun _ z=>by simp at z,by simp,by simp⟩
  have ini:MH L a.toList b.toList (#[a[a.size-1]'(by omega)]:Array Keyed).reverse.toList (a.size-1) b.size:=nil.putA O sa sb ra rb na nb (by omega) (by omega) (hl _ (mem_arr (by omega)))
  by_cases e1:(a.size-1==0)=true
  · rw [if_pos e1]
    exact wpS_pure (h _ _ (Sm.refl _) (ini.fin0 rb (by simpa using e1)))
  rw [if_neg e1]
  by_cases e2:(b.size==1)=true
  · rw [if_pos e2]
    exact wpS_pure (h _ _ (Sm.refl _) (ini.fin1 ra rb (by simpa using e2) h0))
  rw [if_neg e2]
  have e1':0<a.size-1:=by
    have:a.size-1≠0:=by simpa using e1
    omega
  have e2':1<b.size:=by
    have:b.size≠1:=by simpa using e2
    omega
  refine wpS_bind (wpS_get ?_)
  skip
  refine wpS_bind (wpS_mono (wpS_forRange (I:=fun x c st'=>c.1=none∧MHS L st a b c.2.2.2.1 c.2.1 c.2.2.1 st'∧x+1≤c.2.2.2.1.size) (Q:=fun c st'=>∃ o,c.1=some o∧Sm st st'∧Mrg L a.toList b.toList o.toList) ?step ?fin ?init) ?post)
  case init=>exact ⟨rfl,⟨Sm.refl _,ini,e1',e2'⟩,by simp⟩
  case fin =>
    rintro ⟨c1,na,nb,out,g⟩ st' ⟨_,ms,hs⟩
    dsimp only at *
    have:=ms.mi.size
    have:=ms.ha
    have:=ms.hb
    omega
  case post =>
    rintro ⟨c1,na,nb,out,g⟩ st' ⟨o,rfl,sm,m⟩
    exact wpS_pure (h _ _ sm m)
  case step =>
    rintro x ⟨c1,na,nb,out,g⟩ st' _ hx ⟨rfl,ms,hs⟩
    dsimp -zeta only at *
    refine wpS_bind (wpS_mono (wpS_forRange (I:=fun _ c st'=>c.1=none∧MHS L st a b c.2.2.2.1 c.2.1 c.2.2.1 st'∧x+1≤c.2.2.2.1.size)
      (Q:=fun c st'=>(∃ o,c.1=some o∧Sm st st'∧Mrg L a.toList b.toList o.toList)∨(c.1=none∧MHS L st a b c.2.2.2.1 c.2.1 c.2.2.1 st'∧x+1≤c.2.2.2.1.size)) ?step1 (fun _ _ z=>.inr z) ?init1) ?post1)
    case init1=>exact ⟨rfl,ms,hs⟩
    case step1 =>
      rintro y ⟨c1,na,nb,out,ac,bc⟩ st' _ hy ⟨rfl,ms,hs⟩
      dsimp only at *
      have hA:=ms.mi.hA
      have hB:=ms.mi.hB
      have ha:=ms.ha
      have hb:=ms.hb
      refine wpS_bind (wpS_elem (getElem?_pos b (nb-1) (by omega)) ?_)
      refine wpS_bind (wpS_elem (getElem?_pos a (na-1) (by omega)) ?_)
      refine wpS_bind (C.lt _ _ _ _ (sb _ (mem_arr (by omega))) (sa _ (mem_arr (by omega))) (ms.sm.kind.trans hk) ?_)
      dsimp only
      cases e:L (b[nb-1]'(by omega)) (a[na-1]'(by omega)) with
      | true =>
        rw [if_pos rfl]
        refine wpS_bind (wpS_elem (getElem?_pos a (na-1) (by omega)) ?_)
        have m2:=ms.mi.putA O sa sb ra rb (by omega) (by omega) (by omega) (by omega) (C.asym _ _ e)
        by_cases z:(na-1==0)=true
        · rw [if_pos z]
          exact wpS_pure (.inl ⟨_,rfl,ms.sm,m2.fin0 rb (by simpa using z)⟩)
        · rw [if_neg z]
          have z':0<na-1:=by
            have:na-1≠0:=by simpa using z
            omega
          split
          · exact wpS_pure (.inr ⟨rfl,⟨ms.sm,m2,z',hb⟩,by simp;omega⟩)
          · exact wpS_pure ⟨rfl,⟨ms.sm,m2,z',hb⟩,by simp;omega⟩
      | false =>
        rw [if_neg (by decide)]
        refine wpS_bind (wpS_elem (getElem?_pos b (nb-1) (by omega)) ?_)
        have m2:=ms.mi.putB O sa sb ra rb (by omega) (by omega) (by omega) (by omega) e
        by_cases z:(nb-1==1)=true
        · rw [if_pos z]
          exact wpS_pure (.inl ⟨_,rfl,ms.sm,m2.fin1 ra rb (by simpa using z) h0⟩)
        · rw [if_neg z]
          have z':1<nb-1:=by
            have:nb-1≠1:=by simpa using z
            omega
          split
          · exact wpS_pure (.inr ⟨rfl,⟨ms.sm,m2,ha,z'⟩,by simp;omega⟩)
          · exact wpS_pure ⟨rfl,⟨ms.sm,m2,ha,z'⟩,by simp;omega⟩
    case post1 =>
      rintro ⟨c1,na,nb,out,ac,bc⟩ st' (⟨o,rfl,sm,m⟩ | ⟨rfl,ms,hs⟩)
      · exact wpS_pure ⟨o,rfl,sm,m⟩
      · iterate 10 skip
        dsimp (config:={ zeta:=false }) only at *
        refine wpS_bind (wpS_lift (wpAny_rule ⟨rfl,?_⟩))
        skip
        refine wpS_bind (wpS_mono (wpS_forRange (I:=fun y c st'=>c.1=none∧MHS L st a b c.2.2.2.1 c.2.1 c.2.2.1 st'∧x+1+y≤c.2.2.2.1.size)
          (Q:=fun c st'=>(∃ o,c.1=some o∧Sm st st'∧Mrg L a.toList b.toList o.toList)∨(c.1=none∧MHS L st a b c.2.2.2.1 c.2.1 c.2.2.1 st'∧x+2≤c.2.2.2.1.size)) ?step2 ?fin2 ?init2) ?post2)
        case init2=>exact ⟨rfl,ms,hs⟩
        case fin2 =>
          rintro ⟨c1,na,nb,out,g,ac,bc⟩ st' ⟨e,ms,hs⟩
          refine .inr ⟨e,ms,?_⟩
          dsimp only at *
          omega
        case post2 =>
          rintro ⟨c1,na,nb,out,g,ac,bc⟩ st' (⟨o,rfl,sm,m⟩ | ⟨rfl,ms,hs⟩)
          · exact wpS_pure ⟨o,rfl,sm,m⟩
          · dsimp only at *
            exact wpS_bind (wpS_setGallop (wpS_pure ⟨rfl,⟨ms.sm.gal _,ms.mi,ms.ha,ms.hb⟩,by dsimp only;omega⟩))
        case step2 =>
          rintro y ⟨c1,na,nb,out,g,ac,bc⟩ st' _ hy ⟨e3,ms,hs⟩
          dsimp -zeta only at e3 ms hs ⊢
          subst e3
          have hA:=ms.mi.hA
          have hB:=ms.mi.hB
          have ha:=ms.ha
          have hb:=ms.hb
          have mz:=ms.mi.size
          extract_lets +onlyGivenNames -underBinder s1 n1 s2 n2 s3 n3 s4 n4 s5 n5 n6 jp
          refine wpS_jp1 jp (fun _ g=>?_) fun hj=>by clear_value jp;split<;>exact hj _ _
          dsimp -zeta only [s1,s2,s3,s4,s5,n1,n2,n3,n4,n5,n6,jp]
          clear jp s1 s2 s3 s4 s5 n1 n2 n3 n4 n5 n6
          refine wpS_bind (wpS_setGallop ?_)
          refine wpS_bind (wpS_elem (getElem?_pos b (nb-1) (by omega)) ?_)
          refine wpS_bind (wpS_gallop C (ms.sm.kind.trans hk) (sb _ (mem_arr (by omega))) sa (by omega) (by omega) (pb_mono_r O sa ra (sb _ (mem_arr (by omega))) (by omega)) fun k1 hk1 ht1 hf1=>?_)
          dsimp -zeta only
          extract_lets +onlyGivenNames -underBinder k ac jp
          refine wpS_jp2 jp (fun na out=>∃ _:0<na∧na≤a.size,MH L a.toList b.toList out.reverse.toList na nb∧L (b[nb-1]'(by omega)) (a[na-1]'(by omega))=false∧x+1+y≤out.size) ?_ ?_
          · rintro _ na out ⟨_,m1,nx,hs⟩
            dsimp -zeta only [jp]
            clear jp
            refine wpS_bind (wpS_elem (getElem?_pos b (nb-1) (by omega)) ?_)
            have m2:=m1.putB O sa sb ra rb (by omega) (by omega) (by omega) (by omega) nx
            extract_lets +onlyGivenNames -underBinder ou
            by_cases z3:(nb-1==1)=true
            · rw [if_pos z3]
              exact wpS_pure (.inl ⟨_,rfl,ms.sm.gal _,m2.fin1 ra rb (by simpa using z3) h0⟩)
            rw [if_neg z3]
            have z3':1<nb-1:=by
              have:nb-1≠1:=by simpa using z3
              omega
            refine wpS_bind (wpS_elem (getElem?_pos a (na-1) (by omega)) ?_)
            refine wpS_bind (wpS_gallop C (ms.sm.kind.trans hk) (sa _ (mem_arr (by omega))) sb (by omega) (by omega) (pb_mono_l O sb rb (sa _ (mem_arr (by omega))) (by omega)) fun k2 hk2 ht2 hf2=>?_)
            dsimp -zeta only
            extract_lets +onlyGivenNames -underBinder k bc jp
            refine wpS_jp2 jp (fun nb ou=>∃ _:1<nb∧nb≤b.size,MH L a.toList b.toList ou.reverse.toList na nb∧L (a[na-1]'(by omega)) (b[nb-1]'(by omega))=false∧x+2+y≤ou.size) ?_ ?_
            · rintro _ nb ou ⟨⟨h1,_⟩,m3,nx2,hs⟩
              dsimp -zeta only [jp]
              clear jp
              refine wpS_bind (wpS_elem (getElem?_pos a (na-1) (by omega)) ?_)
              have m4:=m3.putA O sa sb ra rb (by omega) (by omega) (by omega) (by omega) nx2
              dsimp only
              by_cases z5:(na-1==0)=true
              · rw [if_pos z5]
                exact wpS_pure (.inl ⟨_,rfl,ms.sm.gal _,m4.fin0 rb (by simpa using z5)⟩)
              rw [if_neg z5]
              have z5':0<na-1:=by
                have:na-1≠0:=by simpa using z5
                omega
              split
              · exact wpS_pure (.inr ⟨rfl,⟨ms.sm.gal _,m4,z5',h1⟩,by simp;omega⟩)
              · exact wpS_pure ⟨rfl,⟨ms.sm.gal _,m4,z5',h1⟩,by simp;omega⟩
            clear_value jp
            intro hj
            have nx2:∀ n,(hn:0<n)→n≤k2→(hb:n≤b.size)→L (a[na-1]'(by omega)) (b[n-1]'(by omega))=false:=fun n hn hk hb=>by
              have:=ht2 (n-1) (by omega)
              rw [pb0_t (by omega)] at this
              exact C.asym _ _ this
            by_cases kz:k > 0
            · rw [if_pos kz]
              have m3:=m2.putBs (k:=k2) O sa sb ra rb (by omega) (by omega) hk2 hf2
              dsimp only
              by_cases z4:(k2==1)=true
              · rw [if_pos z4]
                exact wpS_pure (.inl ⟨_,rfl,ms.sm.gal _,m3.fin1 ra rb (by simpa using z4) h0⟩)
              rw [if_neg z4]
              by_cases z6:(k2==0)=true
              · rw [if_pos z6]
                exact wpS_pure (.inl ⟨_,rfl,ms.sm.gal _,m3.fin0b ra (by simpa using z6)⟩)
              rw [if_neg z6]
              have:k2≠1:=by simpa using z4
              have:k2≠0:=by simpa using z6
              exact hj _ _ _ ⟨⟨by omega,by omega⟩,m3,nx2 _ (by omega) (by omega) (by omega),by simp [ou];omega⟩
            · rw [if_neg kz]
              exact hj _ _ _ ⟨⟨by omega,by omega⟩,m2,nx2 _ (by omega) (by omega) (by omega),by simp [ou];omega⟩
          clear_value jp
          intro hj
          have nx:∀ n,(hn:0<n)→n≤k1→(hb:n≤a.size)→L (b[nb-1]'(by omega)) (a[n-1]'(by omega))=false:=fun n hn hk hb=>by
            have:=ht1 (n-1) (by omega)
            rw [pb0_f (by omega)] at this
            simpa using this
          by_cases kz:k > 0
          · rw [if_pos kz]
            have m1:=ms.mi.putAs (k:=k1) O sa sb ra rb (by omega) (by omega) hk1 hf1
            dsimp only
            by_cases z1:(k1==0)=true
            · rw [if_pos z1]
              exact wpS_pure (.inl ⟨_,rfl,ms.sm.gal _,m1.fin0 rb (by simpa using z1)⟩)
            rw [if_neg z1]
            have:k1≠0:=by simpa using z1
            exact hj _ _ _ ⟨⟨by omega,by omega⟩,m1,nx _ (by omega) (by omega) (by omega),by simp;omega⟩
          · rw [if_neg kz]
            exact hj _ _ _ ⟨⟨by omega,by omega⟩,ms.mi,nx _ (by omega) (by omega) (by omega),hs⟩
end
end Srt
namespace Srt
open PySem PyProof.Rows
section
variable {S:Keyed→Prop}{L:Keyed→Keyed→Bool}
theorem seg_get {arr:Array Keyed}{pre A rest:List Keyed}(e:arr.toList=pre++(A++rest)){i:Nat}(hi:i<A.length):arr[pre.length+i]?=some A[i]:=by
  rw [← Array.getElem?_toList,e,List.getElem?_append_right (by omega),show pre.length+i-pre.length=i by omega,List.getElem?_append_left hi]
  exact List.getElem?_eq_getElem hi
theorem seg_f {arr:Array Keyed}{pre A rest:List Keyed}(e:arr.toList=pre++(A++rest)){key:Keyed}{i:Nat}(hi:i<A.length):pb L false key arr pre.length i=!L key A[i]:=by
  unfold pb
  rw [seg_get e hi]
  rfl
theorem seg_t {arr:Array Keyed}{pre A rest:List Keyed}(e:arr.toList=pre++(A++rest)){key:Keyed}{i:Nat}(hi:i<A.length):pb L true key arr pre.length i=L A[i] key:=by
  unfold pb
  rw [seg_get e hi]
  rfl
theorem rise_get {A:List Keyed}(r:Rise L A){i j:Nat}(hij:i<j)(hj:j<A.length):L A[j] (A[i]'(by omega))=false:=List.pairwise_iff_getElem.mp r i j (by omega) hj hij
theorem seg_mono_f (O:Ord S L){arr:Array Keyed}{pre A rest:List Keyed}(e:arr.toList=pre++(A++rest))(r:Rise L A)(sA:∀ x∈A,S x){key:Keyed}(sk:S key) :
    ∀ i j,i≤j→j<A.length→pb L false key arr pre.length j=true→pb L false key arr pre.length i=true:=by
  intro i j hij hj h
  rw [seg_f e hj] at h
  rw [seg_f e (by omega)]
  rcases Nat.lt_or_ge i j with q | q
  · have h:L key A[j]=false:=by simpa using h
    have:=O.step (sA _ (List.getElem_mem (by omega))) (sA _ (List.getElem_mem hj)) sk h (rise_get r q hj)
    simpa using this
  · have:i=j:=by omega
    subst this
    exact h
theorem seg_mono_t (O:Ord S L){arr:Array Keyed}{pre A rest:List Keyed}(e:arr.toList=pre++(A++rest))(r:Rise L A)(sA:∀ x∈A,S x){key:Keyed}(sk:S key) :
    ∀ i j,i≤j→j<A.length→pb L true key arr pre.length j=true→pb L true key arr pre.length i=true:=by
  intro i j hij hj h
  rw [seg_t e hj] at h
  rw [seg_t e (by omega)]
  rcases Nat.lt_or_ge i j with q | q
  · rcases O.neg _ (A[i]'(by omega)) _ (sA _ (List.getElem_mem hj)) (sA _ (List.getElem_mem (by omega))) sk h with z | z
    · rw [rise_get r q hj] at z
      cases z
    · exact z
  · have:i=j:=by omega
    subst this
    exact h
theorem mem_take_ix {A:List Keyed}{k:Nat}{x:Keyed}(h:x∈A.take k):∃ i,i<k∧∃ q:i<A.length,x=A[i]:=by
  obtain ⟨j,hj,e⟩:=List.mem_iff_getElem.mp h
  rw [List.length_take] at hj
  exact ⟨j,by omega,by omega,by rw [← e];simp⟩
theorem mem_drop_ix {A:List Keyed}{k:Nat}{x:Keyed}(h:x∈A.drop k):∃ i,k≤i∧∃ q:i<A.length,x=A[i]:=by
  obtain ⟨j,hj,e⟩:=List.mem_iff_getElem.mp h
  rw [List.length_drop] at hj
  exact ⟨k+j,by omega,by omega,by rw [← e];simp⟩
theorem wr_list:∀ (l:List Keyed) (n:Nat) (sa:Nat) (arr:Array Keyed),sa+n+l.length≤arr.size →
    ((l.zipIdx n).foldl (fun (a:Array Keyed) (q:Keyed × Nat)=>a.setIfInBounds (sa+q.2) q.1) arr).toList=arr.toList.take (sa+n)++l++arr.toList.drop (sa+n+l.length)
  | [],n,sa,arr,h=>by simp
  | x :: l,n,sa,arr,h=>by
    rw [List.zipIdx_cons,List.foldl_cons]
    have h':sa+(n+1)+l.length≤(arr.setIfInBounds (sa+n) x).size:=by
      rw [Array.size_setIfInBounds]
      simp only [List.length_cons] at h
      omega
    rw [wr_list l (n+1) sa _ h']
    have hlt:sa+n<arr.toList.length:=by simp only [List.length_cons] at h;simp;omega
    rw [Array.toList_setIfInBounds,List.take_set,List.drop_set]
    rw [if_pos (by omega)]
    have e1:(arr.toList.take (sa+(n+1))).set (sa+n) x=arr.toList.take (sa+n)++[x]:=by
      rw [show sa+(n+1)=sa+n+1 by omega,List.take_succ,List.getElem?_eq_getElem hlt]
      have hl:(arr.toList.take (sa+n)).length=sa+n:=by rw [List.length_take];omega
      rw [List.set_append_right _ _ (by omega),hl,Nat.sub_self]
      rfl
    rw [e1]
    simp only [List.length_cons,List.append_assoc,List.cons_append,List.nil_append]
    rw [show sa+(n+1)+l.length=sa+n+(l.length+1) by omega]
theorem merge_rise (O:Ord S L) {A B M:List Keyed} {k n:Nat} {b0 al:Keyed} (rA:Rise L A) (rB:Rise L B) (sA:∀ x∈A,S x) (sB:∀ x∈B,S x) (sb0:S b0) (sal:S al) (hb0:∀ y∈B,L y b0=false) (hal:∀ x∈A,L al x=false)
    (f1:∀ x∈A.take k,L b0 x=false) (f2:∀ y∈B.drop n,L y al=false) (pM:M.Perm (A.drop k++B.take n)) (rM:Rise L M):Rise L (A.take k++M++B.drop n)∧(A.take k++M++B.drop n).Perm (A++B):=by
  have bp:∀ x∈A.take k,∀ y∈B,L y x=false:=fun x hx y hy=>O.step (sA _ (List.mem_of_mem_take hx)) sb0 (sB _ hy) (hb0 y hy) (f1 x hx)
  have qa:∀ x∈A,∀ y∈B.drop n,L y x=false:=fun x hx y hy=>O.step (sA _ hx) sal (sB _ (List.mem_of_mem_drop hy)) (f2 y hy) (hal x hx)
  constructor
  · refine List.pairwise_append.mpr ⟨List.pairwise_append.mpr ⟨rA.sublist (List.take_sublist _ _),rM,fun x hx y hy=>?_⟩,rB.sublist (List.drop_sublist _ _),fun x hx y hy=>?_⟩
    · rcases List.mem_append.mp (pM.mem_iff.mp hy) with z | z
      · have r:=rA
        rw [← List.take_append_drop k A] at r
        exact (List.pairwise_append.mp r).2.2 x hx y z
      · exact bp x hx y (List.mem_of_mem_take z)
    · rcases List.mem_append.mp hx with w | w
      · exact qa x (List.mem_of_mem_take w) y hy
      · rcases List.mem_append.mp (pM.mem_iff.mp w) with z | z
        · exact qa x (List.mem_of_mem_drop z) y hy
        · have r:=rB
          rw [← List.take_append_drop n B] at r
          exact (List.pairwise_append.mp r).2.2 x z y hy
  · refine ((List.Perm.append_left _ pM).append_right _).trans ?_
    rw [← List.append_assoc,List.take_append_drop,List.append_assoc,List.take_append_drop]
end
structure Two (L:Keyed→Keyed→Bool)(st:SortSt)(i:Nat)(pre A B post:List Keyed):Prop where
  arr:(arrOf st).toList=pre++(A++(B++post))
  pa:∃ pw,(pendingOf st)[i]?=some (pre.length,A.length,pw)
  pb:∃ pw,(pendingOf st)[i+1]?=some (pre.length+A.length,B.length,pw)
  rA:Rise L A
  rB:Rise L B
  nA:0<A.length
  nB:0<B.length
section
variable {M:Model}{Ar:Around}{E:Value→Shared→Prop}{s:Shared}{kd:SortKind}{S:Keyed→Prop}{L:Keyed→Keyed→Bool}
theorem wpS_set {σ:Type}{x:σ}{Q:PUnit→σ→Prop}{st:σ}(h:Q ⟨⟩ x):wpS M Ar E s (set x:StateT σ Sem PUnit) Q st:=by
  unfold wpS
  rw [StateT.run_set]
  exact wpAny_pure ⟨rfl,h⟩
theorem wpS_mergeAt (C:Cmp M Ar E s kd S L){st:SortSt}{i:Nat}{pre A B post:List Keyed}{Q:Bool→SortSt→Prop}(hk:kindOf st=kd)(hf:failedOf st=none)(sS:∀ x∈(arrOf st).toList,S x)(T:Two L st i pre A B post)
    (h:∀ (st':SortSt) (R:List Keyed) (pw:Nat),kindOf st'=kd→failedOf st'=none→(arrOf st').toList=pre++(R++post)→Rise L R→R.Perm (A++B) →
      pendingOf st'=((pendingOf st).setIfInBounds i (pre.length,A.length+B.length,pw)).eraseIdxIfInBounds (i+1)→Q true st'):wpS M Ar E s (mergeAt' i) Q st:=by
  have O:=C.ord
  obtain ⟨earr,⟨pw,epa⟩,⟨pw2,epb⟩,rA,rB,nA,nB⟩:=T
  have sA:∀ x∈A,S x:=fun x hx=>sS x (by rw [earr];simp [hx])
  have sB:∀ x∈B,S x:=fun x hx=>sS x (by rw [earr];simp [hx])
  have earr2:(arrOf st).toList=(pre++A)++(B++post):=by rw [earr,List.append_assoc]
  have hsz:(arrOf st).size=pre.length+A.length+B.length+post.length:=by
    rw [← Array.length_toList,earr]
    simp only [List.length_append]
    omega
  have ga:=fun {j:Nat} (hj:j<A.length)=>seg_get earr hj
  have gb:∀ {j:Nat} (hj:j<B.length),(arrOf st)[pre.length+A.length+j]?=some B[j]:=fun {j} hj=>by
    have:=seg_get earr2 hj
    rw [List.length_append] at this
    exact this
  have ht:=fun {key:Keyed} {j:Nat} (hj:j<B.length)=>seg_t (L:=L) (key:=key) earr2 hj
  have mt:=fun {key:Keyed} (sk:S key)=>seg_mono_t O earr2 rB sB sk
  rw [List.length_append] at ht mt
  have aux:∀ {P:Prop},P→P:=fun x=>x
  unfold mergeAt'
  k_delta "mergeAt"
  refine wpS_bind (wpS_get ?_)
  dsimp only
  rw [epa,epb]
  dsimp only
  refine wpS_bind (wpS_set ?_)
  refine wpS_bind (wpS_elem (gb (j:=0) nB) ?_)
  refine wpS_bind (wpS_gallop (arr:=arrOf st) C (by exact hk) (sB _ (List.getElem_mem nB)) sS (by omega) nA (seg_mono_f O earr rA sA (sB _ (List.getElem_mem nB))) fun k hk1 t1 f1=>?_)
  dsimp only
  have hb0:∀ y∈B,L y B[0]=false:=fun y hy=>by
    obtain ⟨j,hj,rfl⟩:=List.mem_iff_getElem.mp hy
    rcases Nat.eq_zero_or_pos j with z | z
    · subst z
      exact O.irr _
    · exact rise_get rB z hj
  have hal:∀ x∈A,L A[A.length-1] x=false:=fun x hx=>by
    obtain ⟨j,hj,rfl⟩:=List.mem_iff_getElem.mp hx
    rcases Nat.lt_or_ge j (A.length-1) with z | z
    · exact rise_get rA z (by omega)
    · have:j=A.length-1:=by omega
      subst this
      exact O.irr _
  have F1:∀ x∈A.take k,L B[0] x=false:=fun x hx=>by
    obtain ⟨j,hj,q,rfl⟩:=mem_take_ix hx
    have:=t1 j hj
    rw [seg_f earr q] at this
    simpa using this
  have F1':∀ x∈A.drop k,L B[0] x=true:=fun x hx=>by
    obtain ⟨j,hj,q,rfl⟩:=mem_drop_ix hx
    have:=f1 j hj q
    rw [seg_f earr q] at this
    simpa using this
  by_cases z1:(A.length-k==0)=true
  · rw [if_pos z1]
    have ek:A.length≤k:=by
      have:A.length-k=0:=by simpa using z1
      omega
    have:=merge_rise (M:=[]) (n:=0) O rA rB sA sB (sB _ (List.getElem_mem nB)) (sA A[A.length-1] (List.getElem_mem (by omega))) hb0 hal F1 (fun y hy=>?_) (by rw [List.drop_of_length_le ek];simp) .nil
    · refine wpS_pure (h _ (A.take k++[]++B.drop 0) pw hk hf ?_ this.1 this.2 rfl)
      rw [List.take_of_length_le ek]
      simp only [List.append_nil,List.drop_zero,List.append_assoc]
      exact earr
    · exact O.step (sA _ (List.getElem_mem (by omega))) (sB _ (List.getElem_mem nB)) (sB _ hy) (hb0 y hy) (F1 _ (by rw [List.take_of_length_le ek];exact List.getElem_mem (by omega)))
  rw [if_neg z1]
  have z1':k<A.length:=by
    have:A.length-k≠0:=by simpa using z1
    omega
  have el:(arrOf st)[pre.length+k+(A.length-k)-1]?=some A[A.length-1]:=by
    rw [show pre.length+k+(A.length-k)-1=pre.length+(A.length-1) by omega]
    exact ga (by omega)
  refine wpS_bind (wpS_elem el ?_)
  refine wpS_bind (wpS_gallop (arr:=arrOf st) C (by exact hk) (sA _ (List.getElem_mem (by omega))) sS (by omega) (by omega) (mt (sA _ (List.getElem_mem (by omega)))) fun n hn t2 f2=>?_)
  dsimp only
  have F2:∀ y∈B.drop n,L y A[A.length-1]=false:=fun y hy=>by
    obtain ⟨j,hj,q,rfl⟩:=mem_drop_ix hy
    have:=f2 j hj q
    rw [ht q] at this
    exact this
  have F2':∀ y∈B.take n,L y A[A.length-1]=true:=fun y hy=>by
    obtain ⟨j,hj,q,rfl⟩:=mem_take_ix hy
    have:=t2 j hj
    rw [ht q] at this
    exact this
  by_cases z2:(n==0)=true
  · rw [if_pos z2]
    have en:n=0:=by simpa using z2
    subst en
    have:=merge_rise (M:=A.drop k) (n:=0) O rA rB sA sB (sB _ (List.getElem_mem nB)) (sA A[A.length-1] (List.getElem_mem (by omega))) hb0 hal F1 F2 (by simp) (rA.sublist (List.drop_sublist _ _))
    refine wpS_pure (h _ (A.take k++A.drop k++B.drop 0) pw hk hf ?_ this.1 this.2 rfl)
    rw [List.take_append_drop,List.drop_zero,List.append_assoc]
    exact earr
  rw [if_neg z2]
  have z2':0<n:=by
    have:n≠0:=by simpa using z2
    omega
  have ex:((arrOf st).extract (pre.length+k) (pre.length+A.length)).toList=A.drop k:=by
    rw [ext_piece _ (by omega),earr]
    rw [show pre++(A++(B++post))=(pre++A)++(B++post) by rw [List.append_assoc]]
    rw [List.take_append_of_le_length (by simp),List.take_of_length_le (by simp),← List.drop_drop]
    simp
  have ey:((arrOf st).extract (pre.length+A.length) (pre.length+A.length+n)).toList=B.take n:=by
    rw [ext_list,earr2]
    rw [show pre.length+A.length=(pre++A).length by simp,List.drop_left,List.take_append_of_le_length hn]
  generalize (arrOf st).extract (pre.length+k) (pre.length+A.length)=x at ex ⊢
  generalize (arrOf st).extract (pre.length+A.length) (pre.length+A.length+n)=y at ey ⊢
  have xs:x.size=A.length-k:=by rw [← Array.length_toList,ex,List.length_drop]
  have ys:y.size=n:=by rw [← Array.length_toList,ey,List.length_take];omega
  have y0:∀ (q:0<y.size),y[0]=B[0]:=fun q=>by
    have:y.toList[0]?=(B.take n)[0]?:=by rw [ey]
    rw [List.getElem?_take_of_lt z2',List.getElem?_eq_getElem nB,Array.getElem?_toList,getElem?_pos y 0 q] at this
    exact Option.some.inj this
  have xl:∀ (q:x.size-1<x.size),x[x.size-1]=A[A.length-1]:=fun q=>by
    have e2:(A.drop k)[x.size-1]?=some A[A.length-1]:=by
      rw [List.getElem?_drop,xs,show k+(A.length-k-1)=A.length-1 by omega]
      exact List.getElem?_eq_getElem (by omega)
    have:x.toList[x.size-1]?=some A[A.length-1]:=by
      rw [ex]
      exact e2
    rw [Array.getElem?_toList,getElem?_pos x (x.size-1) q] at this
    exact Option.some.inj this
  have fin:∀ (o:Array Keyed) (st':SortSt),Sm (setPending st (((pendingOf st).setIfInBounds i (pre.length,A.length+B.length,pw)).eraseIdxIfInBounds (i+1))) st'→Mrg L x.toList y.toList o.toList →
      wpS M Ar E s (do
        modify fun s=>setArr s (o.toList.zipIdx.foldl (fun (a:Array Keyed) (q:Keyed × Nat)=>a.setIfInBounds (pre.length+k+q.2) q.1) (arrOf s))
        return (failedOf (← get)).isNone) Q st':=by
    intro o st' sm ⟨mp,mr⟩
    rw [ex,ey] at mp
    have:=merge_rise O rA rB sA sB (sB _ (List.getElem_mem nB)) (sA A[A.length-1] (List.getElem_mem (by omega))) hb0 hal F1 F2 mp mr
    have ol:o.toList.length=A.length-k+n:=by rw [mp.length_eq,List.length_append,List.length_drop,List.length_take];omega
    refine wpS_bind (wpS_modify ?_)
    refine wpS_bind (wpS_get (wpS_pure ?_))
    have ef:failedOf st'=none:=sm.failed.trans hf
    show Q (failedOf st').isNone _
    rw [ef]
    refine h _ _ pw (sm.kind.trans hk) ef ?_ this.1 this.2 sm.pend
    show (o.toList.zipIdx.foldl _ (arrOf st')).toList=_
    have ea:arrOf st'=arrOf st:=sm.arr
    rw [ea]
    refine (wr_list o.toList 0 (pre.length+k) (arrOf st) (by omega)).trans ?_
    rw [Nat.add_zero,earr,ol]
    have t3:(pre++(A++(B++post))).take (pre.length+k)=pre++A.take k:=by
      rw [List.take_append,List.take_of_length_le (by omega),show pre.length+k-pre.length=k by omega,List.take_append_of_le_length (by omega)]
    have t4:(pre++(A++(B++post))).drop (pre.length+k+(A.length-k+n))=B.drop n++post:=by
      rw [show pre.length+k+(A.length-k+n)=pre.length+(A.length+n) by omega,← List.drop_drop,List.drop_left,← List.drop_drop,List.drop_left,List.drop_append_of_le_length hn]
    rw [t3,t4]
    simp only [List.append_assoc]
  have sx:∀ z∈x.toList,S z:=fun z hz=>sA z (by rw [ex] at hz;exact List.mem_of_mem_drop hz)
  have sy:∀ z∈y.toList,S z:=fun z hz=>sB z (by rw [ey] at hz;exact List.mem_of_mem_take hz)
  have rx:Rise L x.toList:=by rw [ex];exact rA.sublist (List.drop_sublist _ _)
  have ry:Rise L y.toList:=by rw [ey];exact rB.sublist (List.take_sublist _ _)
  have hx0:∀ z∈x.toList,L z B[0]=false:=fun z hz=>C.asym _ _ (F1' z (by rw [← ex];exact hz))
  have hyl:∀ z∈y.toList,L A[A.length-1] z=false:=fun z hz=>C.asym _ _ (F2' z (by rw [← ey];exact hz))
  by_cases z3:A.length-k≤n
  · rw [if_pos z3]
    refine wpS_bind (wpS_mergeLo C (by exact hk) sx sy rx ry (by omega) (by omega) (fun z hz=>by rw [y0 (by omega)];exact hx0 z hz) (fun z hz w hw=>?_) fin)
    rw [drop_get (by omega),show x.size-1+1=x.toList.length by simp;omega,List.drop_of_length_le (Nat.le_refl _)] at hz
    have hz:z=x[x.size-1]:=by simpa using hz
    rw [hz,xl (by omega)]
    exact hyl w hw
  · rw [if_neg z3]
    refine wpS_bind (wpS_mergeHi C (by exact hk) sx sy rx ry (by omega) (by omega) (fun z hz w hw=>?_) (fun w hw=>by rw [xl (by omega)];exact hyl w hw) fin)
    have e1:y.toList.take 1=[y[0]'(by omega)]:=by
      have:=drop_get (a:=y) (i:=0) (by omega)
      rw [List.drop_zero] at this
      rw [this]
      rfl
    rw [e1] at hw
    have hw:w=y[0]'(by omega):=by simpa using hw
    rw [hw,y0 (by omega)]
    exact hx0 z hz
end
end Srt
namespace Srt
open PySem PyProof.Rows
theorem swap_adj {xs:Array Keyed} {u v:List Keyed} {x y:Keyed} (e:xs.toList=u++(y::x::v)):(xs.swapIfInBounds (u.length+1) u.length).toList=u++(x::y::v):=by
  have sz:xs.size=u.length+(v.length+2):=by rw [← Array.length_toList,e];simp
  apply List.ext_getElem?
  intro t
  rw [Array.getElem?_toList,getElem?_swapIB (by omega) (by omega)]
  have g:∀ i,xs[i]?=(u++(y::x::v))[i]?:=fun i=>by rw [← Array.getElem?_toList,e]
  rw [g,g,g]
  by_cases h1:u.length=t
  · subst h1
    rw [if_pos rfl,List.getElem?_append_right (by omega),List.getElem?_append_right (by omega),Nat.sub_self,show u.length+1-u.length=1 by omega]
    rfl
  · rw [if_neg h1]
    by_cases h2:u.length+1=t
    · subst h2
      rw [if_pos rfl,List.getElem?_append_right (by omega),List.getElem?_append_right (by omega),Nat.sub_self,show u.length+1-u.length=1 by omega]
      rfl
    · rw [if_neg h2]
      rcases Nat.lt_or_ge t u.length with q | q
      · rw [List.getElem?_append_left q,List.getElem?_append_left q]
      · rw [List.getElem?_append_right q,List.getElem?_append_right q]
        obtain ⟨w,hw⟩:∃ w,t-u.length=w+2:=⟨t-u.length-2,by omega⟩
        rw [hw]
        rfl
theorem bubble_list {arr:Array Keyed}{pre A rest:List Keyed}{x:Keyed}(e:arr.toList=pre++(A++(x::rest))):∀ d,d≤A.length→(bubble arr (pre.length+A.length) d).toList=pre++(A.take (A.length-d)++(x::(A.drop (A.length-d)++rest)))
  | 0,_=>by
    rw [Nat.sub_zero,List.take_of_length_le (Nat.le_refl _),List.drop_of_length_le (Nat.le_refl _),List.nil_append]
    exact e
  | d + 1,h=>by
    have ih:=bubble_list e d (by omega)
    rw [bubble_succ]
    obtain ⟨m,hm⟩:∃ m,A.length-d=m+1:=⟨A.length-d-1,by omega⟩
    have hm2:A.length-(d+1)=m:=by omega
    have hmA:m<A.length:=by omega
    rw [hm] at ih
    rw [hm2]
    have e1:A.take (m+1)=A.take m++[A[m]]:=by rw [List.take_succ,List.getElem?_eq_getElem hmA];rfl
    have e2:A.drop m=A[m]::A.drop (m+1):=List.drop_eq_getElem_cons hmA
    have ih2:(bubble arr (pre.length+A.length) d).toList=(pre++A.take m)++(A[m]::x::(A.drop (m+1)++rest)):=by
      rw [ih,e1]
      simp only [List.append_assoc,List.cons_append,List.nil_append]
    have:=swap_adj ih2
    rw [show (pre++A.take m).length=pre.length+m by rw [List.length_append,List.length_take];omega] at this
    rw [show pre.length+A.length-d=pre.length+m+1 by omega,show pre.length+m+1-1=pre.length+m by omega,this,e2]
    simp only [List.append_assoc,List.cons_append,List.nil_append]
theorem mirror_list {arr:Array Keyed}{u w v:List Keyed}(e:arr.toList=u++(w++v)):(mirror arr u.length (u.length+w.length) ((u.length+w.length-u.length)/2)).toList=u++(w.reverse++v):=by
  have sz:arr.size=u.length+(w.length+v.length):=by rw [← Array.length_toList,e];simp
  apply List.ext_getElem?
  intro t
  rw [Array.getElem?_toList,getElem?_mirror_all (by omega)]
  have g:∀ i,arr[i]?=(u++(w++v))[i]?:=fun i=>by rw [← Array.getElem?_toList,e]
  rw [g,g]
  by_cases h1:u.length≤t∧t<u.length+w.length
  · rw [if_pos h1,List.getElem?_append_right (by omega),List.getElem?_append_right h1.1,List.getElem?_append_left (by omega),List.getElem?_append_left (by rw [List.length_reverse];omega),List.getElem?_reverse (by omega)]
    congr 1
    omega
  · rw [if_neg h1]
    rcases Nat.lt_or_ge t u.length with q | q
    · rw [List.getElem?_append_left q,List.getElem?_append_left q]
    · rw [List.getElem?_append_right q,List.getElem?_append_right q,List.getElem?_append_right (by omega),List.getElem?_append_right (by rw [List.length_reverse];omega),List.length_reverse]
structure Sa (st st':SortSt):Prop where
  kind:kindOf st'=kindOf st
  pend:pendingOf st'=pendingOf st
  failed:failedOf st'=failedOf st
section
variable {M:Model}{Ar:Around}{E:Value→Shared→Prop}{s:Shared}{kd:SortKind}{S:Keyed→Prop}{L:Keyed→Keyed→Bool}
theorem wpS_ltL (C:Cmp M Ar E s kd S L){st:SortSt}{i j:Nat}{x y:Keyed}{Q:Option Bool→SortSt→Prop}(hk:kindOf st=kd)(ei:(arrOf st)[i]?=some x)(ej:(arrOf st)[j]?=some y)(sx:S x)(sy:S y)(h:Q (some (L x y)) st):wpS M Ar E s (ltAt' i j) Q st:=by
  rw [ltAt'_eq]
  refine wpS_bind (wpS_get ?_)
  dsimp only
  exact wpS_bind (wpS_elem ei (wpS_bind (wpS_elem ej (C.lt _ _ _ _ sx sy hk h))))
theorem wpS_binary (C:Cmp M Ar E s kd S L) {st:SortSt} {pre A U post:List Keyed} {Q:Bool→SortSt→Prop} (hk:kindOf st=kd) (sS:∀ x∈A++U,S x) (e:(arrOf st).toList=pre++(A++(U++post))) (rA:Rise L A) (nA:0<A.length)
    (h:∀ (st':SortSt) (R:List Keyed),Sa st st'→(arrOf st').toList=pre++(R++post)→Rise L R→R.Perm (A++U)→Q true st'):wpS M Ar E s (binarySort' pre.length (A.length+U.length) A.length) Q st:=by
  have O:=C.ord
  rw [binarySort'_eq]
  rw [show max A.length 1=A.length by omega]
  refine wpS_bind (wpS_mono (wpS_forRange (I:=fun k c st'=>c.1=none∧Sa st st'∧A.length≤k∧k≤A.length+U.length∧∃ R,R.length=k∧(arrOf st').toList=pre++(R++(U.drop (k-A.length)++post))∧Rise L R∧R.Perm (A++U.take (k-A.length)))
    (Q:=fun c st'=>c.1=none∧Sa st st'∧∃ R,(arrOf st').toList=pre++(R++post)∧Rise L R∧R.Perm (A++U)) ?step ?fin ?init) ?post)
  case init=>exact ⟨rfl,⟨rfl,rfl,rfl⟩,Nat.le_refl _,by omega,A,rfl,by rw [Nat.sub_self,List.drop_zero];exact e,rA,by rw [Nat.sub_self];simp⟩
  case fin =>
    rintro c st' ⟨e1,sm,h1,h2,R,hl,ea,rR,pR⟩
    refine ⟨e1,sm,R,?_,rR,?_⟩
    · rw [ea,List.drop_of_length_le (by omega),List.nil_append]
    · rw [List.take_of_length_le (by omega)] at pR
      exact pR
  case post =>
    rintro ⟨c1,c2⟩ st' ⟨e1,sm,R,ea,rR,pR⟩
    dsimp only at e1
    subst e1
    exact wpS_pure (h st' R sm ea rR pR)
  case step =>
    rintro k ⟨c1,_⟩ st' _ hkn ⟨e1,sm,h1,h2,R,hl,ea,rR,pR⟩
    dsimp only at e1 ⊢
    subst e1
    have hu:k-A.length<U.length:=by omega
    have ed:U.drop (k-A.length)=U[k-A.length]::U.drop (k-A.length+1):=List.drop_eq_getElem_cons hu
    generalize hx:U[k-A.length]=x at ed
    have sx:S x:=sS x (by rw [← hx];exact List.mem_append_right _ (List.getElem_mem hu))
    have sR:∀ z∈R,S z:=fun z hz=>sS z (by
      rcases List.mem_append.mp (pR.mem_iff.mp hz) with q | q
      · exact List.mem_append_left _ q
      · exact List.mem_append_right _ (List.mem_of_mem_take q))
    rw [ed] at ea
    have ek:(arrOf st')[pre.length+k]?=some x:=by
      rw [← Array.getElem?_toList,ea,List.getElem?_append_right (by omega),show pre.length+k-pre.length=k by omega,List.getElem?_append_right (by omega),hl,Nat.sub_self]
      rfl
    have kk:kindOf st'=kd:=sm.kind.trans hk
    refine wpS_bind (wpS_mono (wpS_forRange (I:=fun y c st2=>st'=st2∧c.1=none∧c.2.1≤c.2.2∧c.2.2≤k∧c.2.2-c.2.1≤k-y∧(∀ z∈R.take c.2.1,L x z=false)∧(∀ z∈R.drop c.2.2,L x z=true))
      (Q:=fun c st2=>st'=st2∧c.1=none∧c.2.1≤k∧(∀ z∈R.take c.2.1,L x z=false)∧(∀ z∈R.drop c.2.1,L x z=true)) ?step2 ?fin2 ?init2) ?post2)
    case init2=>exact ⟨rfl,rfl,Nat.zero_le _,Nat.le_refl _,by dsimp only;omega,fun z hz=>by simp at hz,fun z hz=>by rw [List.drop_of_length_le (by dsimp only;omega)] at hz;simp at hz⟩
    case fin2 =>
      rintro ⟨c1,l,r⟩ st2 ⟨rfl,e1,g1,g2,g3,g4,g5⟩
      dsimp only at *
      have:l=r:=by omega
      subst this
      exact ⟨rfl,e1,g2,g4,g5⟩
    case step2 =>
      rintro y ⟨c1,l,r⟩ st2 _ hy ⟨rfl,e1,g1,g2,g3,g4,g5⟩
      dsimp only at *
      subst e1
      by_cases hlt:l≥r
      · rw [if_pos hlt]
        have:l=r:=by omega
        subst this
        exact wpS_pure ⟨rfl,rfl,g2,g4,g5⟩
      · rw [if_neg hlt]
        have hm:(l+r)/2<R.length:=by omega
        refine wpS_bind (wpS_ltL C kk ek (seg_get ea hm) sx (sR _ (List.getElem_mem hm)) ?_)
        dsimp only
        cases el:L x R[(l+r)/2] with
        | true =>
          rw [if_pos rfl]
          refine wpS_pure ⟨rfl,rfl,by dsimp only;omega,by dsimp only;omega,by dsimp only;omega,g4,fun z hz=>?_⟩
          obtain ⟨j,hj,q,rfl⟩:=mem_drop_ix hz
          dsimp only at hj
          rcases Nat.lt_or_ge ((l+r)/2) j with w | w
          · rcases O.neg x R[j] R[(l+r)/2] sx (sR _ (List.getElem_mem q)) (sR _ (List.getElem_mem hm)) el with v | v
            · exact v
            · rw [rise_get rR w q] at v
              cases v
          · have:j=(l+r)/2:=by omega
            subst this
            exact el
        | false =>
          rw [if_neg (by decide)]
          refine wpS_pure ⟨rfl,rfl,by dsimp only;omega,g2,by dsimp only;omega,fun z hz=>?_,g5⟩
          obtain ⟨j,hj,q,rfl⟩:=mem_take_ix hz
          dsimp only at hj
          rcases Nat.lt_or_ge j ((l+r)/2) with w | w
          · exact O.step (sR _ (List.getElem_mem q)) (sR _ (List.getElem_mem hm)) sx el (rise_get rR w hm)
          · have:j=(l+r)/2:=by omega
            subst this
            exact el
    case post2 =>
      rintro ⟨c1,l,r⟩ st2 ⟨rfl,e1,g2,g4,g5⟩
      dsimp only at *
      subst e1
      rw [moveDown'_eq]
      refine wpS_bind (wpS_modify (wpS_pure ⟨rfl,⟨sm.kind,sm.pend,sm.failed⟩,by omega,by omega,R.take l++(x::R.drop l),?_,?_,?_,?_⟩))
      · simp only [List.length_append,List.length_take,List.length_cons,List.length_drop]
        omega
      · show (bubble (arrOf st') (pre.length+k) (pre.length+k-(pre.length+l))).toList=_
        have:=bubble_list ea (k-l) (by omega)
        rw [hl,show k-(k-l)=l by omega] at this
        rw [show pre.length+k-(pre.length+l)=k-l by omega,this,show k+1-A.length=k-A.length+1 by omega]
        simp only [List.append_assoc,List.cons_append]
        rfl
      · refine List.pairwise_append.mpr ⟨rR.sublist (List.take_sublist _ _),List.pairwise_cons.mpr ⟨fun z hz=>O.asym _ _ (g5 z hz),rR.sublist (List.drop_sublist _ _)⟩,fun z hz w hw=>?_⟩
        rcases List.mem_cons.mp hw with q | q
        · rw [q]
          exact g4 z hz
        · have r2:=rR
          rw [← List.take_append_drop l R] at r2
          exact (List.pairwise_append.mp r2).2.2 z hz w q
      · rw [show k+1-A.length=k-A.length+1 by omega,List.take_succ,List.getElem?_eq_getElem hu,hx,← List.append_assoc]
        refine (List.perm_middle (l₁:=R.take l) (l₂:=R.drop l)).trans ?_
        rw [List.take_append_drop]
        refine (List.Perm.cons x pR).trans ?_
        exact (List.perm_append_singleton x _).symm
end
end Srt
namespace Srt
open PySem PyProof.Rows
abbrev Fall (L:Keyed→Keyed→Bool)(l:List Keyed):Prop:=l.Pairwise fun x y=>L x y=false
structure CR (st st':SortSt)(pre all D T:List Keyed):Prop where
  sa:Sa st st'
  arr:(arrOf st').toList=pre++(D++T)
  perm:(D++T).Perm all
section
variable {M:Model}{Ar:Around}{E:Value→Shared→Prop}{s:Shared}{kd:SortKind}{S:Keyed→Prop}{L:Keyed→Keyed→Bool}
theorem Sa.arr {st st':SortSt}(h:Sa st st')(a:Array Keyed):Sa st (setArr st' a):=⟨h.kind,h.pend,h.failed⟩
theorem CR.get {st st':SortSt}{pre all D T:List Keyed}(h:CR st st' pre all D T){i:Nat}(hi:i<(D++T).length):(arrOf st')[pre.length+i]?=some (D++T)[i]:=by
  rw [← Array.getElem?_toList,h.arr,List.getElem?_append_right (by omega),show pre.length+i-pre.length=i by omega]
  exact List.getElem?_eq_getElem hi
theorem CR.ends {st st':SortSt}{pre all D T:List Keyed}{x y:Keyed}(h:CR st st' pre all (D++[y]) (x::T)){n:Nat}(hn:n=D.length+1):(arrOf st')[pre.length+n]?=some x∧(arrOf st')[pre.length+n-1]?=some y:=by
  subst hn
  constructor
  · rw [← Array.getElem?_toList,h.arr,List.getElem?_append_right (by omega),show pre.length+(D.length+1)-pre.length=D.length+1 by omega,List.getElem?_append_right (by simp)]
    simp
  · rw [← Array.getElem?_toList,h.arr,List.getElem?_append_right (by omega),show pre.length+(D.length+1)-1-pre.length=D.length by omega,List.getElem?_append_left (by simp),List.getElem?_append_right (by omega)]
    simp
theorem snoc_of {D:List Keyed}(h:0<D.length):∃ D0 y,D=D0++[y]:=⟨D.dropLast,D.getLast (by intro e;rw [e] at h;simp at h),(List.dropLast_concat_getLast _).symm⟩
theorem rise_snoc (O:Ord S L){D0:List Keyed}{x y:Keyed}(sD:∀ z∈D0++[y],S z)(sx:S x)(r:Rise L (D0++[y]))(c:L x y=false):Rise L (D0++[y]++[x]):=by
  refine List.pairwise_append.mpr ⟨r,by simp,fun z hz w hw=>?_⟩
  have hw:w=x:=by simpa using hw
  subst hw
  rcases List.mem_append.mp hz with q | q
  · exact O.step (sD z hz) (sD y (by simp)) sx c ((List.pairwise_append.mp r).2.2 z q y (by simp))
  · have q:z=y:=by simpa using q
    rw [q]
    exact c
theorem fall_snoc (O:Ord S L){D0:List Keyed}{x y:Keyed}(sD:∀ z∈D0++[y],S z)(sx:S x)(r:Fall L (D0++[y]))(c:L y x=false):Fall L (D0++[y]++[x]):=by
  refine List.pairwise_append.mpr ⟨r,by simp,fun z hz w hw=>?_⟩
  have hw:w=x:=by simpa using hw
  subst hw
  rcases List.mem_append.mp hz with q | q
  · exact O.step sx (sD y (by simp)) (sD z hz) ((List.pairwise_append.mp r).2.2 z q y (by simp)) c
  · have q:z=y:=by simpa using q
    rw [q]
    exact c
theorem fall_rev {D:List Keyed}(h:Fall L D):Rise L D.reverse:=List.pairwise_reverse.mpr h
theorem CR.next {st st':SortSt}{pre all D T:List Keyed}{x:Keyed}(h:CR st st' pre all D (x::T)):CR st st' pre all (D++[x]) T:=⟨h.sa,by rw [h.arr];simp,by have:=h.perm;simpa using this⟩
theorem CR.turn {st st':SortSt}{pre all D1 W T:List Keyed}(h:CR st st' pre all (D1++W) T):CR st (setArr st' (mirror (arrOf st') (pre.length+D1.length) (pre.length+D1.length+W.length) ((pre.length+D1.length+W.length-(pre.length+D1.length))/2))) pre all (D1++W.reverse) T:=by
  refine ⟨h.sa.arr _,?_,?_⟩
  · have e:(arrOf st').toList=(pre++D1)++(W++T):=by rw [h.arr];simp
    have:=mirror_list e
    rw [List.length_append] at this
    show (mirror _ _ _ _).toList=_
    rw [this]
    simp
  · refine List.Perm.trans ?_ h.perm
    exact (List.Perm.append_left _ (List.reverse_perm W)).append_right _
theorem wpS_asc (C:Cmp M Ar E s kd S L) {st st0:SortSt} {pre all D T:List Keyed} {n nrem:Nat} {f:Nat→Option (Option Nat) × Nat→StateT SortSt Sem (ForInStep (Option (Option Nat) × Nat))} {Q:Option (Option Nat) × Nat→SortSt→Prop} (hk:kindOf st=kd) (sS:∀ x∈all,S x)
    (h:CR st st0 pre all D T) (r:Rise L D) (hn:D.length=n) (nD:0<n) (hnr:n+T.length=nrem)
    (hf:∀ x c,f x c=(do
      let __x ← ltAt' (pre.length+c.2) (pre.length+c.2-1)
      match __x with
      | some smaller=>if smaller=true then pure (ForInStep.done (none,c.2)) else pure (ForInStep.yield (none,c.2+1))
      | _=>pure (ForInStep.done (some none,c.2))))
    (h2:∀ st' D' T' m,CR st st' pre all D' T'→Rise L D'→D'.length=m→n≤m→m+T'.length=nrem→(m=nrem∨∃ D0 y x T0,D'=D0++[y]∧T'=x::T0∧L x y=true)→Q (none,m) st') :
    wpS M Ar E s (forIn [n:nrem] ((none,n):Option (Option Nat) × Nat) f) Q st0:=by
  have O:=C.ord
  refine wpS_forRange (I:=fun x c st'=>c.1=none∧c.2=x∧x≤nrem∧n≤x∧∃ D' T',CR st st' pre all D' T'∧Rise L D'∧D'.length=x∧x+T'.length=nrem) ?step ?fin ?init
  case init=>exact ⟨rfl,rfl,by omega,Nat.le_refl _,D,T,h,r,hn,hnr⟩
  case fin =>
    rintro ⟨c1,c2⟩ st' ⟨e1,e2,h3,h4,D',T',cr,r',hl,hT⟩
    dsimp only at e1 e2
    subst e1
    rw [e2]
    exact h2 st' D' T' _ cr r' hl (by omega) (by omega) (.inl (by omega))
  case step =>
    rintro x ⟨c1,c2⟩ st' hx1 hx2 ⟨e1,e2,h3,h4,D',T',cr,r',hl,hT⟩
    dsimp only at e1 e2
    subst e1 e2
    obtain ⟨D0,y,rfl⟩:=snoc_of (D:=D') (by omega)
    cases T' with
    | nil=>simp at hT;omega
    | cons z T0 =>
      have hl':c2=D0.length+1:=by rw [← hl];simp
      obtain ⟨g1,g2⟩:=cr.ends hl'
      have sall:∀ w∈D0++[y]++z::T0,S w:=fun w hw=>sS w (cr.perm.mem_iff.mp hw)
      have sz:S z:=sall z (by simp)
      have sy:S y:=sall y (by simp)
      rw [hf]
      refine wpS_bind (wpS_ltL C (cr.sa.kind.trans hk) g1 g2 sz sy ?_)
      dsimp only
      cases e:L z y with
      | true =>
        rw [if_pos rfl]
        exact wpS_pure (h2 st' _ _ _ cr r' hl (by omega) hT (.inr ⟨D0,y,z,T0,rfl,rfl,e⟩))
      | false =>
        rw [if_neg (by decide)]
        refine wpS_pure ⟨rfl,rfl,by omega,by omega,D0++[y]++[z],T0,cr.next,rise_snoc O (fun w hw=>sall w (List.mem_append_left _ hw)) sz r' e,?_,?_⟩
        · simp only [List.length_append,List.length_cons,List.length_nil] at hl ⊢
          omega
        · simp only [List.length_cons] at hT
          omega
structure Dn (L:Keyed→Keyed→Bool)(D:List Keyed)(neq:Nat):Prop where
  fall:Fall L D
  lt:neq<D.length
  same:∀ x∈D.drop (D.length-(neq+1)),∀ y∈D.drop (D.length-(neq+1)),L x y=false
theorem Dn.turn {D:List Keyed}{neq:Nat}(h:Dn L D neq):Fall L (D.take (D.length-(neq+1))++(D.drop (D.length-(neq+1))).reverse):=by
  have f:=h.fall
  rw [← List.take_append_drop (D.length-(neq+1)) D] at f
  obtain ⟨f1,f2,f3⟩:=List.pairwise_append.mp f
  refine List.pairwise_append.mpr ⟨f1,?_,fun x hx y hy=>f3 x hx y (List.mem_reverse.mp hy)⟩
  refine List.Pairwise.imp_of_mem (R:=fun _ _=>True) (fun {x y} hx hy _=>h.same x (List.mem_reverse.mp hx) y (List.mem_reverse.mp hy)) ?_
  exact List.pairwise_of_forall fun _ _=>trivial
theorem wpS_rev {i j:Nat}{st:SortSt}{Q:Unit→SortSt→Prop}(h:Q () (setArr st (mirror (arrOf st) i j ((j-i)/2)))):wpS M Ar E s (reverseSlice' i j) Q st:=by
  rw [reverseSlice'_eq]
  exact wpS_modify h
theorem CR.turnEnd {st st':SortSt}{pre all D T:List Keyed}{neq n:Nat}(h:CR st st' pre all D T)(d:Dn L D neq)(hn:D.length=n) :
    CR st (setArr st' (mirror (arrOf st') (pre.length+n-(neq+1)) (pre.length+n) ((pre.length+n-(pre.length+n-(neq+1)))/2))) pre all (D.take (n-(neq+1))++(D.drop (n-(neq+1))).reverse) T:=by
  subst hn
  have hl:=d.lt
  have h':CR st st' pre all (D.take (D.length-(neq+1))++D.drop (D.length-(neq+1))) T:=by rw [List.take_append_drop];exact h
  have:=h'.turn
  rw [List.length_take,List.length_drop,Nat.min_eq_left (by omega),show pre.length+(D.length-(neq+1))+(D.length-(D.length-(neq+1)))=pre.length+D.length by omega,show pre.length+(D.length-(neq+1))=pre.length+D.length-(neq+1) by omega] at this
  exact this
theorem drop_last {D:List Keyed}{x:Keyed}{k:Nat}(h:k≤D.length):(D++[x]).drop ((D++[x]).length-(k+1))=D.drop (D.length-k)++[x]:=by
  rw [List.length_append,List.length_singleton,show D.length+1-(k+1)=D.length-k by omega,List.drop_append_of_le_length (by omega)]
theorem wpS_desc (C:Cmp M Ar E s kd S L) {st st0:SortSt} {pre all D T:List Keyed} {n nrem:Nat} {f:Nat→Option (Option Nat) × Nat × Nat→StateT SortSt Sem (ForInStep (Option (Option Nat) × Nat × Nat))} {Q:Option (Option Nat) × Nat × Nat→SortSt→Prop} (hk:kindOf st=kd) (sS:∀ x∈all,S x)
    (h:CR st st0 pre all D T) (r:Dn L D 0) (hn:D.length=n) (hnr:n+T.length=nrem)
    (hf : ∀ x c,f x c=(do
      let __x ← ltAt' (pre.length+c.2.1) (pre.length+c.2.1-1)
      match __x with
      | some smaller =>
        if smaller=true then
          if c.2.2 > 0 then do
            reverseSlice' (pre.length+c.2.1-(c.2.2+1)) (pre.length+c.2.1)
            pure (ForInStep.yield (none,c.2.1+1,0))
          else pure (ForInStep.yield (none,c.2.1+1,0))
        else do
          let __x ← ltAt' (pre.length+c.2.1-1) (pre.length+c.2.1)
          match __x with
          | some larger=>if larger=true then pure (ForInStep.done (none,c.2.1,c.2.2)) else pure (ForInStep.yield (none,c.2.1+1,c.2.2+1))
          | _=>pure (ForInStep.done (some none,c.2.1,c.2.2))
      | _=>pure (ForInStep.done (some none,c.2.1,c.2.2))))
    (h2:∀ st' D' T' m neq,CR st st' pre all D' T'→Dn L D' neq→D'.length=m→m+T'.length=nrem→Q (none,m,neq) st') :
    wpS M Ar E s (forIn [n:nrem] ((none,n,0):Option (Option Nat) × Nat × Nat) f) Q st0:=by
  have O:=C.ord
  refine wpS_forRange (I:=fun x c st'=>c.1=none∧c.2.1=x∧x≤nrem∧∃ D' T',CR st st' pre all D' T'∧Dn L D' c.2.2∧D'.length=x∧x+T'.length=nrem) ?step ?fin ?init
  case init=>exact ⟨rfl,rfl,by omega,D,T,h,r,hn,hnr⟩
  case fin =>
    rintro ⟨c1,c2,c3⟩ st' ⟨e1,e2,h3,D',T',cr,r',hl,hT⟩
    dsimp only at e1 e2 r'
    subst e1
    exact h2 st' D' T' _ _ cr r' (hl.trans e2.symm) (by omega)
  case step =>
    rintro x ⟨c1,c2,c3⟩ st' hx1 hx2 ⟨e1,e2,h3,D',T',cr,dn,hl,hT⟩
    dsimp only at e1 e2 dn
    subst e1 e2
    obtain ⟨D0,y,eD⟩:=snoc_of (D:=D') (by have:=dn.lt;omega)
    cases T' with
    | nil=>simp at hT;omega
    | cons z T0 =>
      have hl':c2=D0.length+1:=by rw [← hl,eD];simp
      have cr':=cr
      rw [eD] at cr'
      obtain ⟨g1,g2⟩:=cr'.ends hl'
      have sall:∀ w∈D'++z::T0,S w:=fun w hw=>sS w (cr.perm.mem_iff.mp hw)
      have sz:S z:=sall z (by simp)
      have sy:S y:=sall y (by rw [eD];simp)
      have hle:=dn.lt
      simp only [List.length_cons] at hT
      rw [hf]
      refine wpS_bind (wpS_ltL C (cr.sa.kind.trans hk) g1 g2 sz sy ?_)
      dsimp only
      cases e:L z y with
      | true =>
        rw [if_pos rfl]
        have zl:∀ w∈D',L w z=false:=by
          intro w hw
          have f:=dn.fall
          rw [eD] at f hw
          rcases List.mem_append.mp hw with q | q
          · exact O.step sz sy (sall w (by rw [eD];exact List.mem_append_left _ (List.mem_append_left _ q))) ((List.pairwise_append.mp f).2.2 w q y (by simp)) (O.asym _ _ e)
          · have q:w=y:=by simpa using q
            rw [q]
            exact O.asym _ _ e
        have mk:∀ D2:List Keyed,Fall L D2→(∀ w∈D2,L w z=false)→Dn L (D2++[z]) 0:=by
          intro D2 f2 z2
          refine ⟨List.pairwise_append.mpr ⟨f2,by simp,fun w hw v hv=>?_⟩,by simp,fun u hu v hv=>?_⟩
          · have hv:v=z:=by simpa using hv
            rw [hv]
            exact z2 w hw
          · rw [drop_last (Nat.zero_le _),Nat.sub_zero,List.drop_of_length_le (Nat.le_refl _),List.nil_append] at hu hv
            have hu:u=z:=by simpa using hu
            have hv:v=z:=by simpa using hv
            rw [hu,hv]
            exact O.irr z
        by_cases hq:c3 > 0
        · rw [if_pos hq]
          have ct:=cr.turnEnd dn hl
          refine wpS_bind (wpS_rev (wpS_pure ⟨rfl,rfl,by omega,_,T0,ct.next,mk _ (by have:=dn.turn;rw [hl] at this;exact this) (fun w hw=>zl w ?_),?_,by omega⟩))
          · rcases List.mem_append.mp hw with q | q
            · exact List.mem_of_mem_take q
            · exact List.mem_of_mem_drop (List.mem_reverse.mp q)
          · simp only [List.length_append,List.length_take,List.length_reverse,List.length_drop,List.length_cons,List.length_nil]
            omega
        · rw [if_neg hq]
          refine wpS_pure ⟨rfl,rfl,by omega,D'++[z],T0,cr.next,mk _ dn.fall zl,?_,by omega⟩
          simp only [List.length_append,List.length_cons,List.length_nil]
          omega
      | false =>
        rw [if_neg (by decide)]
        refine wpS_bind (wpS_ltL C (cr.sa.kind.trans hk) g2 g1 sy sz ?_)
        dsimp only
        cases e':L y z with
        | true =>
          rw [if_pos rfl]
          exact wpS_pure (h2 st' _ _ _ _ cr dn hl (by simp only [List.length_cons];omega))
        | false =>
          rw [if_neg (by decide)]
          have yin:y∈D'.drop (D'.length-(c3+1)):=by
            rw [eD,List.length_append,List.length_singleton,List.drop_append_of_le_length (by omega)]
            simp
          refine wpS_pure ⟨rfl,rfl,by omega,D'++[z],T0,cr.next,⟨?_,by simp;omega,fun u hu v hv=>?_⟩,?_,by omega⟩
          · have f:=dn.fall
            rw [eD] at f ⊢
            exact fall_snoc O (fun w hw=>sall w (by rw [eD];exact List.mem_append_left _ hw)) sz f e'
          · dsimp only at hu hv
            rw [drop_last (by omega)] at hu hv
            have sD:∀ w∈D'.drop (D'.length-(c3+1)),S w:=fun w hw=>sall w (List.mem_append_left _ (List.mem_of_mem_drop hw))
            rcases List.mem_append.mp hu with q | q
            · rcases List.mem_append.mp hv with p | p
              · exact dn.same u q v p
              · have p:v=z:=by simpa using p
                rw [p]
                exact O.step sz sy (sD u q) (dn.same u q y yin) e'
            · have q:u=z:=by simpa using q
              rw [q]
              rcases List.mem_append.mp hv with p | p
              · exact O.step (sD v p) sy sz e (dn.same y yin v p)
              · have p:v=z:=by simpa using p
                rw [p]
                exact O.irr z
          · simp only [List.length_append,List.length_cons,List.length_nil]
            omega
theorem wpS_countRunL (C:Cmp M Ar E s kd S L) {st:SortSt} {pre all:List Keyed} {Q:Option Nat→SortSt→Prop} (hk:kindOf st=kd) (sS:∀ x∈all,S x) (e:(arrOf st).toList=pre++all) (ne:0<all.length)
    (h:∀ st' R T,Sa st st'→(arrOf st').toList=pre++(R++T)→Rise L R→(R++T).Perm all→0<R.length→Q (some R.length) st'):wpS M Ar E s (countRun' pre.length all.length) Q st:=by
  have O:=C.ord
  rw [countRun'_eq]
  obtain ⟨x0,T0,rfl⟩:∃ x T,all=x::T:=by
    cases all with
    | nil=>simp at ne
    | cons x T=>exact ⟨x,T,rfl⟩
  have c0:CR st st pre (x0::T0) [x0] T0:=⟨⟨rfl,rfl,rfl⟩,e,List.Perm.refl _⟩
  dsimp only
  refine wpS_bind (wpS_asc C hk sS c0 (by simp) rfl (by decide) (by simp;omega) (fun x c=>rfl) fun st1 D T m c1 r1 l1 m1 t1 w1=>?_)
  dsimp only
  by_cases z1:(m==(x0::T0).length)=true
  · rw [if_pos z1,← l1]
    exact wpS_pure (h st1 D T c1.sa c1.arr r1 c1.perm (by omega))
  rw [if_neg z1]
  have z1':m≠(x0::T0).length:=by simpa using z1
  obtain ⟨D0,y,x,T1,eD,eT,hxy⟩:=w1.resolve_left z1'
  subst eD eT
  have sall:∀ w∈D0++[y]++x::T1,S w:=fun w hw=>sS w (c1.perm.mem_iff.mp hw)
  have sx:S x:=sall x (by simp)
  have sD:∀ w∈D0++[y],S w:=fun w hw=>sall w (List.mem_append_left _ hw)
  have mk:∀ D2:List Keyed,Fall L D2→(∀ w∈D2,L w x=false)→Dn L (D2++[x]) 0:=by
    intro D2 f2 z2
    refine ⟨List.pairwise_append.mpr ⟨f2,by simp,fun w hw v hv=>?_⟩,by simp,fun u hu v hv=>?_⟩
    · have hv:v=x:=by simpa using hv
      rw [hv]
      exact z2 w hw
    · rw [drop_last (Nat.zero_le _),Nat.sub_zero,List.drop_of_length_le (Nat.le_refl _),List.nil_append] at hu hv
      have hu:u=x:=by simpa using hu
      have hv:v=x:=by simpa using hv
      rw [hu,hv]
      exact O.irr x
  simp only [List.length_cons] at t1
  by_cases z2:m > 1
  · rw [if_pos z2]
    have hD0:0<D0.length:=by
      simp only [List.length_append,List.length_cons,List.length_nil] at l1
      omega
    have e0:(arrOf st1)[pre.length]?=some (D0[0]'hD0):=by
      have:=c1.get (i:=0) (by simp;omega)
      rw [Nat.add_zero] at this
      rw [this,List.getElem_append_left (by simp),List.getElem_append_left hD0]
    have e1:(arrOf st1)[pre.length+m-1]?=some y:=by
      have hl':m=D0.length+1:=by rw [← l1];simp
      exact (c1.ends hl').2
    have s0:S (D0[0]'hD0):=sD _ (List.mem_append_left _ (List.getElem_mem hD0))
    refine wpS_bind (wpS_ltL C (c1.sa.kind.trans hk) e0 e1 s0 (sD y (by simp)) ?_)
    dsimp only
    cases er:L (D0[0]'hD0) y with
    | true =>
      rw [if_pos rfl,← l1]
      exact wpS_pure (h st1 _ _ c1.sa c1.arr r1 c1.perm (by omega))
    | false =>
      rw [if_neg (by decide)]
      have up0:∀ w∈D0++[y],L w (D0[0]'hD0)=false:=by
        intro w hw
        obtain ⟨j,hj,rfl⟩:=List.mem_iff_getElem.mp hw
        rcases Nat.eq_zero_or_pos j with q | q
        · subst q
          rw [List.getElem_append_left hD0]
          exact O.irr _
        · have:=rise_get r1 q hj
          rw [List.getElem_append_left (i:=0) hD0] at this
          exact this
      have upy:∀ w∈D0++[y],L y w=false:=by
        intro w hw
        rcases List.mem_append.mp hw with q | q
        · exact (List.pairwise_append.mp r1).2.2 w q y (by simp)
        · have q:w=y:=by simpa using q
          rw [q]
          exact O.irr y
      have sy:S y:=sD y (by simp)
      have toy:∀ w∈D0++[y],L w y=false:=fun w hw=>O.step sy s0 (sD w hw) (up0 w hw) er
      have eqv:∀ w∈D0++[y],∀ v∈D0++[y],L w v=false:=fun w hw v hv=>O.step (sD v hv) sy (sD w hw) (toy w hw) (upy v hv)
      have xl:∀ w∈D0++[y],L w x=false:=fun w hw=>by
        rcases O.neg x w y sx (sD w hw) sy hxy with q | q
        · exact O.asym _ _ q
        · rw [toy w hw] at q
          cases q
      have cd0:=CR.turn (D1:=[]) (by simpa using c1)
      rw [List.length_nil,Nat.add_zero,l1] at cd0
      have cd:=cd0.next
      have dd:=mk ([]++(D0++[y]).reverse) (by
        rw [List.nil_append]
        refine List.Pairwise.imp_of_mem (R:=fun _ _=>True) (fun {u v} hu hv _=>eqv u (List.mem_reverse.mp hu) v (List.mem_reverse.mp hv)) ?_
        exact List.pairwise_of_forall fun _ _=>trivial) (fun w hw=>xl w (by rw [List.nil_append] at hw;exact List.mem_reverse.mp hw))
      have ld:([]++(D0++[y]).reverse++[x]).length=m+1:=by
        rw [← l1]
        simp
      have hTd:m+1+T1.length=(x0::T0).length:=by simp only [List.length_cons] at t1 ⊢;omega
      refine wpS_bind (wpS_rev ?_)
      refine wpS_bind (wpS_lift (wpAny_rule ⟨rfl,?_⟩))
      refine wpS_bind (wpS_desc C hk sS cd dd ld hTd (fun x c=>rfl) fun st3 D3 T3 m3 neq c3 d3 l3 hT3=>?_)
      dsimp only
      have p3:=d3.lt
      by_cases hq:neq > 0
      · rw [if_pos hq]
        have ct:=c3.turnEnd d3 l3
        have ft:=d3.turn
        rw [l3] at ft
        have lt3:(List.take (m3-(neq+1)) D3++(List.drop (m3-(neq+1)) D3).reverse).length=m3:=by
          simp only [List.length_append,List.length_take,List.length_reverse,List.length_drop]
          omega
        refine wpS_bind (wpS_rev ?_)
        have ct2:=CR.turn (D1:=[]) (by simpa using ct)
        rw [List.length_nil,Nat.add_zero,lt3] at ct2
        refine wpS_bind (wpS_rev ?_)
        refine wpS_bind (wpS_asc C hk sS ct2 (by rw [List.nil_append];exact fall_rev ft) (by simp only [List.nil_append,List.length_reverse];exact lt3) (by omega) hT3 (fun x c=>rfl) fun st5 D5 T5 m5 c5 r5 l5 n5 t5 w5=>?_)
        dsimp only
        rw [← l5]
        exact wpS_pure (h st5 D5 T5 c5.sa c5.arr r5 c5.perm (by omega))
      · rw [if_neg hq]
        have ct:=c3
        have ft:=d3.fall
        have lt3:=l3
        have ct2:=CR.turn (D1:=[]) (by simpa using ct)
        rw [List.length_nil,Nat.add_zero,lt3] at ct2
        refine wpS_bind (wpS_rev ?_)
        refine wpS_bind (wpS_asc C hk sS ct2 (by rw [List.nil_append];exact fall_rev ft) (by simp only [List.nil_append,List.length_reverse];exact lt3) (by omega) hT3 (fun x c=>rfl) fun st5 D5 T5 m5 c5 r5 l5 n5 t5 w5=>?_)
        dsimp only
        rw [← l5]
        exact wpS_pure (h st5 D5 T5 c5.sa c5.arr r5 c5.perm (by omega))
  · rw [if_neg z2]
    have hD0:D0=[]:=by
      simp only [List.length_append,List.length_cons,List.length_nil] at l1
      exact List.length_eq_zero_iff.mp (by omega)
    subst hD0
    have cd:=c1.next
    have dd:=mk ([]++[y]) (by simp) (fun w hw=>by
      have hw:w=y:=by simpa using hw
      rw [hw]
      exact O.asym _ _ hxy)
    have ld:([]++[y]++[x]).length=m+1:=by
      rw [← l1]
      simp
    have hTd:m+1+T1.length=(x0::T0).length:=by simp only [List.length_cons] at t1 ⊢;omega
    refine wpS_bind (wpS_lift (wpAny_rule ⟨rfl,?_⟩))
    refine wpS_bind (wpS_desc C hk sS cd dd ld hTd (fun x c=>rfl) fun st3 D3 T3 m3 neq c3 d3 l3 hT3=>?_)
    dsimp only
    have p3:=d3.lt
    by_cases hq:neq > 0
    · rw [if_pos hq]
      have ct:=c3.turnEnd d3 l3
      have ft:=d3.turn
      rw [l3] at ft
      have lt3:(List.take (m3-(neq+1)) D3++(List.drop (m3-(neq+1)) D3).reverse).length=m3:=by
        simp only [List.length_append,List.length_take,List.length_reverse,List.length_drop]
        omega
      refine wpS_bind (wpS_rev ?_)
      have ct2:=CR.turn (D1:=[]) (by simpa using ct)
      rw [List.length_nil,Nat.add_zero,lt3] at ct2
      refine wpS_bind (wpS_rev ?_)
      refine wpS_bind (wpS_asc C hk sS ct2 (by rw [List.nil_append];exact fall_rev ft) (by simp only [List.nil_append,List.length_reverse];exact lt3) (by omega) hT3 (fun x c=>rfl) fun st5 D5 T5 m5 c5 r5 l5 n5 t5 w5=>?_)
      dsimp only
      rw [← l5]
      exact wpS_pure (h st5 D5 T5 c5.sa c5.arr r5 c5.perm (by omega))
    · rw [if_neg hq]
      have ct:=c3
      have ft:=d3.fall
      have lt3:=l3
      have ct2:=CR.turn (D1:=[]) (by simpa using ct)
      rw [List.length_nil,Nat.add_zero,lt3] at ct2
      refine wpS_bind (wpS_rev ?_)
      refine wpS_bind (wpS_asc C hk sS ct2 (by rw [List.nil_append];exact fall_rev ft) (by simp only [List.nil_append,List.length_reverse];exact lt3) (by omega) hT3 (fun x c=>rfl) fun st5 D5 T5 m5 c5 r5 l5 n5 t5 w5=>?_)
      dsimp only
      rw [← l5]
      exact wpS_pure (h st5 D5 T5 c5.sa c5.arr r5 c5.perm (by omega))
end
end Srt
namespace Srt
open PySem PyProof.Rows
def Pd (L:Keyed→Keyed→Bool):Nat→List (Nat × Nat × Nat)→List (List Keyed)→Prop
  | _,[],[]=>True
  | off,p::ps,R::rs=>p.1=off∧p.2.1=R.length∧0<R.length∧Rise L R∧Pd L (off+R.length) ps rs
  | _,_,_=>False
section
variable {S:Keyed→Prop}{L:Keyed→Keyed→Bool}
theorem Pd.len:∀ {off:Nat} {ps:List (Nat × Nat × Nat)} {rs:List (List Keyed)},Pd L off ps rs→ps.length=rs.length
  | _,[],[],_=>rfl
  | _,_::_,_::_,h=>by simp [Pd.len h.2.2.2.2]
  | _,[],_::_,h=>h.elim
  | _,_::_,[],h=>h.elim
theorem Pd.append:∀ {off:Nat} {ps qs:List (Nat × Nat × Nat)} {rs ts:List (List Keyed)},Pd L off ps rs→Pd L (off+rs.flatten.length) qs ts→Pd L off (ps++qs) (rs++ts)
  | _,[],_,[],_,_,h=>by simpa using h
  | _,_::_,_,_::_,_,h,h2=>⟨h.1,h.2.1,h.2.2.1,h.2.2.2.1,Pd.append h.2.2.2.2 (by simpa [Nat.add_assoc] using h2)⟩
  | _,[],_,_::_,_,h,_=>h.elim
  | _,_::_,_,[],_,h,_=>h.elim
theorem Pd.split:∀ {off:Nat} {ps:List (Nat × Nat × Nat)} (rs:List (List Keyed)) {ts:List (List Keyed)},Pd L off ps (rs++ts)→∃ p1 p2,ps=p1++p2∧Pd L off p1 rs∧Pd L (off+rs.flatten.length) p2 ts
  | _,ps,[],_,h=>⟨[],ps,rfl,trivial,by simpa using h⟩
  | _,p::ps,R::rs,_,h=>by
    obtain ⟨p1,p2,e,h1,h2⟩:=Pd.split rs h.2.2.2.2
    exact ⟨p::p1,p2,by rw [e];rfl,⟨h.1,h.2.1,h.2.2.1,h.2.2.2.1,h1⟩,by simpa [Nat.add_assoc] using h2⟩
  | _,[],_::_,_,h=>h.elim
theorem Pd.pos:∀ {off:Nat} {ps:List (Nat × Nat × Nat)} {rs:List (List Keyed)},Pd L off ps rs→rs.length≤rs.flatten.length
  | _,[],[],_=>by simp
  | _,_::_,R::rs,h=>by
    have:=Pd.pos h.2.2.2.2
    have:=h.2.2.1
    simp only [List.flatten_cons,List.length_append,List.length_cons]
    omega
  | _,[],_::_,h=>h.elim
  | _,_::_,[],h=>h.elim
structure SI (L:Keyed→Keyed→Bool)(kd:SortKind)(all:List Keyed)(st:SortSt)(runs:List (List Keyed))(T:List Keyed):Prop where
  arr:(arrOf st).toList=runs.flatten++T
  perm:(runs.flatten++T).Perm all
  pend:Pd L 0 (pendingOf st).toList runs
  kind:kindOf st=kd
  failed:failedOf st=none
theorem split_at {α:Type}{l:List α}{i:Nat}(h:i+1<l.length):∃ l1 a b l2,l=l1++(a::b::l2)∧l1.length=i:=by
  refine ⟨l.take i,l[i],l[i+1],l.drop (i+2),?_,by rw [List.length_take];omega⟩
  rw [← List.drop_eq_getElem_cons (by omega),← List.drop_eq_getElem_cons (by omega),List.take_append_drop]
end
section
variable {M:Model}{Ar:Around}{E:Value→Shared→Prop}{s:Shared}{kd:SortKind}{S:Keyed→Prop}{L:Keyed→Keyed→Bool}
theorem wpS_mergeRuns (C:Cmp M Ar E s kd S L){all:List Keyed}{st:SortSt}{runs:List (List Keyed)}{T:List Keyed}{i:Nat}{Q:Bool→SortSt→Prop}(sS:∀ x∈all,S x)(h:SI L kd all st runs T)(hi:i+1<runs.length)
    (q:∀ st' runs',SI L kd all st' runs' T→runs'.length+1=runs.length→runs'.flatten.length=runs.flatten.length→Q true st'):wpS M Ar E s (mergeAt' i) Q st:=by
  obtain ⟨r1,A,B,r2,er,hl⟩:=split_at hi
  subst er
  obtain ⟨p1,p2,ep,d1,d2⟩:=Pd.split r1 h.pend
  have lp:=d1.len
  obtain ⟨a,b,p3,rfl⟩:∃ a b p3,p2=a::b::p3:=by
    have:=d2.len
    match p2,this with
    | a::b::p3,_=>exact ⟨a,b,p3,rfl⟩
    | [],e=>simp at e
    | [_],e=>simp at e
  obtain ⟨a1,a2,a3,a4,b1,b2,b3,b4,d3⟩:=d2
  rw [Nat.zero_add] at a1 b1 d3
  obtain ⟨as_,an,apw⟩:=a
  obtain ⟨bs_,bn,bpw⟩:=b
  dsimp only at a1 a2 b1 b2
  subst a1 a2 b1 b2
  have hpa:(pendingOf st)[i]?=some (r1.flatten.length,A.length,apw):=by
    rw [← Array.getElem?_toList,ep,List.getElem?_append_right (by omega),show i-p1.length=0 by omega]
    rfl
  have hpb:(pendingOf st)[i+1]?=some (r1.flatten.length+A.length,B.length,bpw):=by
    rw [← Array.getElem?_toList,ep,List.getElem?_append_right (by omega),show i+1-p1.length=1 by omega]
    rfl
  have earr:(arrOf st).toList=r1.flatten++(A++(B++(r2.flatten++T))):=by
    rw [h.arr]
    simp
  refine wpS_mergeAt C h.kind h.failed (fun x hx=>sS x (h.perm.mem_iff.mp (by rw [← h.arr];exact hx))) ⟨earr,⟨_,hpa⟩,⟨_,hpb⟩,a4,b4,a3,b3⟩ fun st' R pw k' f' ar' rR pR pe'=>?_
  refine q st' (r1++(R::r2)) ⟨?_,?_,?_,k',f'⟩ ?_ ?_
  · rw [ar']
    simp
  · refine List.Perm.trans ?_ h.perm
    simp only [List.flatten_append,List.flatten_cons,List.append_assoc]
    refine List.Perm.append_left _ ?_
    rw [← List.append_assoc A]
    exact pR.append_right _
  · rw [pe']
    have lR:R.length=A.length+B.length:=by rw [pR.length_eq,List.length_append]
    have ee:(((pendingOf st).setIfInBounds i (r1.flatten.length,A.length+B.length,pw)).eraseIdxIfInBounds (i+1)).toList=p1++((r1.flatten.length,A.length+B.length,pw)::p3):=by
      have sz:(pendingOf st).size=p1.length+(p3.length+2):=by rw [← Array.length_toList,ep];simp
      rw [Array.eraseIdxIfInBounds,dif_pos (by rw [Array.size_setIfInBounds];omega)]
      have hp1:p1.length=i:=lp.trans hl
      rw [Array.toList_eraseIdx,Array.toList_setIfInBounds,ep,List.set_append_right _ _ (by omega),show i-p1.length=0 by omega,List.set_cons_zero,List.eraseIdx_append_of_length_le (by omega),show i+1-p1.length=1 by omega]
      rfl
    rw [ee]
    refine Pd.append d1 ?_
    rw [Nat.zero_add]
    exact ⟨rfl,lR.symm,by show 0<R.length;omega,rR,by rw [lR,← Nat.add_assoc];exact d3⟩
  · simp only [List.length_append,List.length_cons]
    omega
  · simp only [List.flatten_append,List.flatten_cons,List.length_append,pR.length_eq]
    omega
theorem ite_pred_le (p:Prop)[Decidable p](a:Nat):(if p then a-1 else a)≤a:=by split<;>omega
theorem SI.setLast {all:List Keyed} {st:SortSt} {runs:List (List Keyed)} {T:List Keyed} (h:SI L kd all st runs T) (pw:Nat):SI L kd all (setPending st ((pendingOf st).modify ((pendingOf st).size-1) fun (s1,len,_)=>(s1,len,pw))) runs T:=by
  refine ⟨h.arr,h.perm,?_,h.kind,h.failed⟩
  show Pd L 0 ((pendingOf st).modify _ _).toList runs
  rw [Array.toList_modify]
  generalize (pendingOf st).size-1=j
  have:∀ (ps:List (Nat × Nat × Nat)) (rs:List (List Keyed)) (off j:Nat),Pd L off ps rs→Pd L off (ps.modify j fun (s1,len,_)=>(s1,len,pw)) rs:=by
    intro ps
    induction ps with
    | nil=>intro rs off j h;simpa using h
    | cons p ps ih =>
      intro rs off j h
      cases rs with
      | nil=>exact h.elim
      | cons R rs =>
        obtain ⟨p0,p1,p2⟩:=p
        cases j with
        | zero=>exact h
        | succ j=>exact ⟨h.1,h.2.1,h.2.2.1,h.2.2.2.1,ih rs _ j h.2.2.2.2⟩
  exact this _ _ _ _ h.pend
theorem SI.push {all:List Keyed}{st st':SortSt}{runs:List (List Keyed)}{R T:List Keyed}(pe:Pd L 0 (pendingOf st').toList runs)(k:kindOf st'=kd)(f:failedOf st'=none)(ar:(arrOf st').toList=runs.flatten++(R++T))(pm:(runs.flatten++(R++T)).Perm all)(rR:Rise L R)(nR:0<R.length){lo n:Nat}
    (hlo:lo=runs.flatten.length) (hn:n=R.length):SI L kd all (setPending st' ((pendingOf st').push (lo,n,0))) (runs++[R]) T:=by
  subst hlo hn
  refine ⟨?_,?_,?_,k,f⟩
  · show (arrOf st').toList=_
    rw [ar]
    simp
  · have e:(runs++[R]).flatten++T=runs.flatten++(R++T):=by simp
    rw [e]
    exact pm
  · show Pd L 0 ((pendingOf st').push _).toList _
    rw [Array.toList_push]
    exact Pd.append pe ⟨by simp,rfl,nR,rR,trivial⟩
theorem wpS_sortRunsL (C:Cmp M Ar E s kd S L) {all:List Keyed} {st:SortSt} {Q:Unit→SortSt→Prop} (sS:∀ x∈all,S x) (k:kindOf st=kd) (f:failedOf st=none) (pe:pendingOf st=#[]) (ar:(arrOf st).toList=all)
    (h:∀ st',failedOf st'=none→(arrOf st').toList.Perm all→Rise L (arrOf st').toList→Q () st'):wpS M Ar E s sortRuns' Q st:=by
  have h0:SI L kd all st [] all:=⟨by simpa using ar,by simp,by rw [pe];trivial,k,f⟩
  have sz:(arrOf st).size=all.length:=by rw [← Array.length_toList,ar]
  rw [sortRuns'_eq]
  refine wpS_bind (wpS_get ?_)
  dsimp only
  rw [sz]
  generalize minRun' all.length all.length 0=mr
  refine wpS_bind (wpS_mono (wpS_forRange (I:=fun x c st'=>c.1=none∧x≤c.2∧∃ runs T,SI L kd all st' runs T∧runs.flatten.length=c.2)
    (Q:=fun c st'=>c.1=none∧∃ runs,SI L kd all st' runs []) ?step ?fin ?init) ?post)
  case init=>exact ⟨rfl,Nat.zero_le _,[],all,h0,rfl⟩
  case fin =>
    rintro ⟨c1,lo⟩ st' ⟨e1,hx,runs,T,si,hl⟩
    refine ⟨e1,runs,?_⟩
    dsimp only at hx hl
    have:=si.perm.length_eq
    rw [List.length_append] at this
    have hT:T=[]:=List.length_eq_zero_iff.mp (by omega)
    subst hT
    exact si
  case post =>
    rintro ⟨c1,lo⟩ st' ⟨e1,runs,si⟩
    dsimp only at e1 ⊢
    subst e1
    dsimp only
    refine wpS_bind (wpS_mono (wpS_forRange (I:=fun x c st'=>c.1=none∧∃ runs,SI L kd all st' runs []∧(runs.length+x≤all.length∨runs.length≤1)) (Q:=fun c st'=>c.1=none∧∃ runs,SI L kd all st' runs []∧runs.length≤1) ?step5 ?fin5 ?init5) ?post5)
    case init5 =>
      refine ⟨rfl,runs,si,.inl ?_⟩
      have h1:=si.pend.pos
      have h2:=si.perm.length_eq
      rw [List.append_nil] at h2
      omega
    case fin5 =>
      rintro ⟨c1,u⟩ st' ⟨e1,runs,si,hr⟩
      refine ⟨e1,runs,si,?_⟩
      omega
    case post5 =>
      rintro ⟨c1,u⟩ st' ⟨e1,runs,si,hr⟩
      dsimp only at e1
      subst e1
      have e2:=si.arr
      rw [List.append_nil] at e2
      refine wpS_pure (h st' si.failed ?_ ?_)
      · have:=si.perm
        rw [List.append_nil] at this
        rw [e2]
        exact this
      · rw [e2]
        have pd:=si.pend
        match runs,hr,pd with
        | [],_,_=>simp
        | [R],_,pd =>
          match hq:(pendingOf st').toList,pd with
          | p::ps,pd=>simpa using pd.2.2.2.1
          | [],pd=>exact pd.elim
    case step5 =>
      rintro x ⟨c1,u⟩ st' _ hx ⟨e1,runs,si,hr⟩
      dsimp only at e1
      subst e1
      have pl:(pendingOf st').size=runs.length:=by rw [← Array.length_toList];exact si.pend.len
      refine wpS_bind (wpS_get ?_)
      by_cases z:(pendingOf st').size≤1
      · rw [if_pos z]
        exact wpS_pure ⟨rfl,runs,si,by omega⟩
      · rw [if_neg z]
        refine wpS_bind (wpS_mergeRuns C sS si (Nat.lt_of_le_of_lt (Nat.add_le_add_right (ite_pred_le _ _) 1) (by omega)) fun st4 runs4 si4 hl4 _=>?_)
        simp only [Bool.not_true,Bool.false_eq_true,if_false]
        exact wpS_pure ⟨rfl,runs4,si4,by omega⟩
  case step =>
    rintro x ⟨c1,lo⟩ st' _ hx ⟨e1,hxl,runs,T,si,hl⟩
    dsimp only at e1 hxl hl ⊢
    subst e1
    by_cases z:lo≥all.length
    · rw [if_pos z]
      refine wpS_pure ⟨rfl,runs,?_⟩
      have:=si.perm.length_eq
      rw [List.length_append] at this
      have hT:T=[]:=List.length_eq_zero_iff.mp (by omega)
      subst hT
      exact si
    · rw [if_neg z]
      have lT:all.length-lo=T.length:=by
        have:=si.perm.length_eq
        rw [List.length_append] at this
        omega
      rw [lT]
      have nT:0<T.length:=by omega
      have sT:∀ x∈T,S x:=fun x hx=>sS x (si.perm.mem_iff.mp (List.mem_append_right _ hx))
      have cnt:=fun {Q:Option Nat→SortSt→Prop}=>wpS_countRunL (Q:=Q) (M:=M) (Ar:=Ar) (E:=E) (s:=s) C (st:=st') (pre:=runs.flatten) (all:=T) si.kind sT si.arr nT
      rw [hl] at cnt
      refine wpS_bind (cnt fun st1 R1 T1 sa1 ar1 rR1 pR1 nR1=>?_)
      dsimp only
      have pm1:(runs.flatten++(R1++T1)).Perm all:=(List.Perm.append_left _ pR1).trans si.perm
      have l1:R1.length+T1.length=T.length:=by rw [← List.length_append];exact pR1.length_eq
      by_cases z2:R1.length<mr
      · rw [if_pos z2]
        refine wpS_bind (wpS_lift (wpAny_rule ⟨rfl,?_⟩))
        have hk:min T.length mr=R1.length+(T1.take (min T.length mr-R1.length)).length:=by
          rw [List.length_take]
          omega
        have bs:=fun {Q:Bool→SortSt→Prop}=>wpS_binary (Q:=Q) (M:=M) (Ar:=Ar) (E:=E) (s:=s) C (st:=st1) (pre:=runs.flatten) (A:=R1) (U:=T1.take (min T.length mr-R1.length)) (post:=T1.drop (min T.length mr-R1.length)) (sa1.kind.trans si.kind)
          (fun x hx=>sT x (pR1.mem_iff.mp (by
            rcases List.mem_append.mp hx with q | q
            · exact List.mem_append_left _ q
            · exact List.mem_append_right _ (List.mem_of_mem_take q)))) (by rw [List.take_append_drop];exact ar1) rR1 nR1
        rw [hl,← hk] at bs
        refine wpS_bind (bs fun st2 R sa2 ar2 rR pR=>?_)
        simp only [Bool.not_true,Bool.false_eq_true,if_false]
        have hn:min T.length mr=R.length:=by rw [pR.length_eq,List.length_append];exact hk
        have nR:0<R.length:=by omega
        generalize hT2:T1.drop (min T.length mr-R1.length)=T2 at *
        have si2:SI L kd all st2 runs (R++T2):=by
          refine ⟨ar2,?_,by rw [sa2.pend,sa1.pend];exact si.pend,sa2.kind.trans (sa1.kind.trans si.kind),sa2.failed.trans (sa1.failed.trans si.failed)⟩
          refine List.Perm.trans (List.Perm.append_left _ ?_) pm1
          refine (pR.append_right _).trans ?_
          rw [List.append_assoc,← hT2,List.take_append_drop]
        generalize hnn:min T.length mr=nn at *
        refine wpS_bind (wpS_get ?_)
        cases eb:(pendingOf st2).back? with
        | none =>
          dsimp only
          refine wpS_bind (wpS_modify (wpS_pure ⟨rfl,by dsimp only;omega,_,T2,SI.push (st:=st2) si2.pend si2.kind si2.failed si2.arr si2.perm rR nR hl.symm hn,?_⟩))
          simp only [List.flatten_append,List.flatten_cons,List.flatten_nil,List.append_nil,List.length_append]
          omega
        | some p =>
          obtain ⟨s1,n1,w1⟩:=p
          dsimp only
          refine wpS_bind (wpS_mono (wpS_forRange (I:=fun _ c st3=>c.1=none∧∃ runs3,SI L kd all st3 runs3 (R++T2)∧runs3.flatten.length=lo) (Q:=fun c st3=>c.1=none∧∃ runs3,SI L kd all st3 runs3 (R++T2)∧runs3.flatten.length=lo) ?stepm (fun _ _ z=>z) ?initm) ?postm)
          case initm=>exact ⟨rfl,runs,si2,hl⟩
          case stepm =>
            rintro y ⟨c1,u⟩ st3 _ _ ⟨e3,runs3,si3,hl3⟩
            dsimp only at e3
            subst e3
            refine wpS_bind (wpS_get ?_)
            have pl:(pendingOf st3).size=runs3.length:=by rw [← Array.length_toList];exact si3.pend.len
            split
            next older he =>
              split
              · exact wpS_pure ⟨rfl,runs3,si3,hl3⟩
              · have h1:(pendingOf st3).size > 1:=by
                  by_cases hz:(pendingOf st3).size > 1
                  · exact hz
                  · rw [if_neg hz] at he
                    cases he
                refine wpS_bind (wpS_mergeRuns C sS si3 (by omega) fun st4 runs4 si4 _ hf4=>?_)
                simp only [Bool.not_true,Bool.false_eq_true,if_false]
                exact wpS_pure ⟨rfl,runs4,si4,hf4.trans hl3⟩
            next=>exact wpS_pure ⟨rfl,runs3,si3,hl3⟩
          case postm =>
            rintro ⟨c1,u⟩ st3 ⟨e3,runs3,si3,hl3⟩
            dsimp only at e3
            subst e3
            dsimp only
            refine wpS_bind (wpS_modify ?_)
            have si4:=si3.setLast (power' all.length (2*s1+n1) (2*s1+n1+n1+nn) all.length)
            refine wpS_bind (wpS_modify (wpS_pure ⟨rfl,by dsimp only;omega,_,T2,SI.push (st:=st3) si4.pend si4.kind si4.failed si4.arr si4.perm rR nR hl3.symm hn,?_⟩))
            simp only [List.flatten_append,List.flatten_cons,List.flatten_nil,List.append_nil,List.length_append]
            omega
      · rw [if_neg z2]
        have si2:SI L kd all st1 runs (R1++T1):=⟨ar1,pm1,by rw [sa1.pend];exact si.pend,sa1.kind.trans si.kind,sa1.failed.trans si.failed⟩
        have rR:=rR1
        have nR:=nR1
        obtain ⟨nn,hn⟩:∃ nn,nn=R1.length:=⟨_,rfl⟩
        rw [← hn]
        refine wpS_bind (wpS_get ?_)
        cases eb:(pendingOf st1).back? with
        | none =>
          dsimp only
          refine wpS_bind (wpS_modify (wpS_pure ⟨rfl,by dsimp only;omega,_,T1,SI.push (st:=st1) si2.pend si2.kind si2.failed si2.arr si2.perm rR nR hl.symm hn,?_⟩))
          simp only [List.flatten_append,List.flatten_cons,List.flatten_nil,List.append_nil,List.length_append]
          omega
        | some p =>
          obtain ⟨s1,n1,w1⟩:=p
          dsimp only
          refine wpS_bind (wpS_mono (wpS_forRange (I:=fun _ c st3=>c.1=none∧∃ runs3,SI L kd all st3 runs3 (R1++T1)∧runs3.flatten.length=lo) (Q:=fun c st3=>c.1=none∧∃ runs3,SI L kd all st3 runs3 (R1++T1)∧runs3.flatten.length=lo) ?stepm (fun _ _ z=>z) ?initm) ?postm)
          case initm=>exact ⟨rfl,runs,si2,hl⟩
          case stepm =>
            rintro y ⟨c1,u⟩ st3 _ _ ⟨e3,runs3,si3,hl3⟩
            dsimp only at e3
            subst e3
            refine wpS_bind (wpS_get ?_)
            have pl:(pendingOf st3).size=runs3.length:=by rw [← Array.length_toList];exact si3.pend.len
            split
            next older he =>
              split
              · exact wpS_pure ⟨rfl,runs3,si3,hl3⟩
              · have h1:(pendingOf st3).size > 1:=by
                  by_cases hz:(pendingOf st3).size > 1
                  · exact hz
                  · rw [if_neg hz] at he
                    cases he
                refine wpS_bind (wpS_mergeRuns C sS si3 (by omega) fun st4 runs4 si4 _ hf4=>?_)
                simp only [Bool.not_true,Bool.false_eq_true,if_false]
                exact wpS_pure ⟨rfl,runs4,si4,hf4.trans hl3⟩
            next=>exact wpS_pure ⟨rfl,runs3,si3,hl3⟩
          case postm =>
            rintro ⟨c1,u⟩ st3 ⟨e3,runs3,si3,hl3⟩
            dsimp only at e3
            subst e3
            dsimp only
            refine wpS_bind (wpS_modify ?_)
            have si4:=si3.setLast (power' all.length (2*s1+n1) (2*s1+n1+n1+nn) all.length)
            refine wpS_bind (wpS_modify (wpS_pure ⟨rfl,by dsimp only;omega,_,T1,SI.push (st:=st3) si4.pend si4.kind si4.failed si4.arr si4.perm rR nR hl3.symm hn,?_⟩))
            simp only [List.flatten_append,List.flatten_cons,List.flatten_nil,List.append_nil,List.length_append]
            omega
end
end Srt
namespace Srt
open PySem PyProof.Rows
abbrev SInt (p:Keyed):Prop:=∃ n t,p.1=.int n t
abbrev LInt (x y:Keyed):Bool:=decide (numOf x.1<numOf y.1)
section
variable {prog:Program}{w:World}{Ar:Around}{E:Value→Shared→Prop}{s:Shared}
theorem cmp_int:Cmp (model prog w) Ar E s oneType' SInt LInt where
  lt:=fun x y st Q hx hy hk h=>by
    obtain ⟨x1,x2⟩:=x
    obtain ⟨y1,y2⟩:=y
    obtain ⟨n,t,ex⟩:=hx
    obtain ⟨m,u,ey⟩:=hy
    dsimp only at ex ey
    subst ex ey
    rw [lt'_eq]
    refine wpS_bind (wpS_get ?_)
    rw [hk,keyLt'_oneType]
    exact wpS_bind (wpS_lift (wpAny_attempt (oneLt_int ⟨rfl,wpS_pure h⟩)))
  asym:=fun x y h=>by
    have h:numOf x.1<numOf y.1:=by simpa using h
    simp
    omega
  neg:=fun x y z _ _ _ h=>by
    have h:numOf x.1<numOf z.1:=by simpa using h
    simp
    omega
theorem sort_ints {a:Addr} {vs:List Value} {ns:List Int} {n:Nat} {P:Fin→Shared→Prop} (ho:s.heap.get? a=some (seqObj "list" vs.toArray n)) (hI:IntsAre vs ns) (hz:vs.length≤sizeLine)
    (h:∀ (out:Array Value) (ns':List Int),IntsAre out.toList ns'→ns'.Perm ns→ns'.Pairwise (·≤·)→P (.done (.ret .none)) { s with heap:=sortedHeap s.heap a vs out }) :
    wpAny (model prog w) Ar (Builtin.«list.sort» ⟨[.ref a],[]⟩) P E s:=by
  rw [list_sort_plain]
  have la:a<s.heap.objs.size:=Heap.lt_size ho
  refine wpAny_bind (listItems_at ho rfl (wpAny_bind (listUpdate_at ho rfl ?_ (hsz:=by simpa using hz))))
  obtain ⟨e1,h1⟩:∃ e1,(s.heap.update a (Obj.mapSeq fun _=>#[])).get? a=some (seqObj "list" #[] e1):=⟨_,get?_update_seq ho (fun _=>#[])⟩
  refine wpAny_bind (seqEpoch_at h1 rfl (wpAny_bind (wpAny_newTuple ?_ (by simpa using hz))))
  refine wpAny_bind (wpAny_newList (wpAny_holding ?_))
  have h6:(((s.heap.update a (Obj.mapSeq fun _=>#[])).push (seqObj "tuple" vs.toArray 0)).push (seqObj "list" #[] 0)).get? a=some (seqObj "list" #[] e1) :=
    Heap.get?_push_of_some _ (Heap.get?_push_of_some _ h1)
  show wpAny (model prog w) Ar _ P E { s with heap:=((s.heap.update a (Obj.mapSeq fun _=>#[])).push (seqObj "tuple" vs.toArray 0)).push (seqObj "list" #[] 0) }
  dsimp only
  have pz:(pairsOf vs).size=vs.length:=pairsOf_size vs
  have done:∀ st':SortSt,(arrOf st').toList.Perm (pairsOf vs).toList→Rise LInt (arrOf st').toList→P (.done (.ret .none)) { s with heap:=sortedHeap s.heap a vs ((arrOf st').map (·.2)) }:=by
    intro st' hp hs
    have hp':(arrOf st').Perm (pairsOf vs):=Array.perm_iff_toList_perm.mpr hp
    obtain ⟨ns',g1,g2,g3⟩:=sorted_out hI hp' (fun i j hij hj=>by
      have hj':j<(arrOf st').size:=by rw [hp'.size_eq];exact hj
      rw [K_eq (by omega),K_eq hj']
      rcases Nat.lt_or_ge i j with q | q
      · have:=List.pairwise_iff_getElem.mp hs i j (by simp;omega) (by simpa using hj') q
        simp at this
        exact this
      · have:i=j:=by omega
        subst this
        exact Int.le_refl _)
    exact h _ ns' g1 g2 g3
  by_cases h2:vs.toArray.size<2
  · rw [if_pos h2,if_pos h2]
    refine wpAny_bind (wpAny_pure ?_)
    rw [StateT.run_pure]
    refine wpAny_bind (wpAny_pure ?_)
    dsimp only
    refine wpAny_bind (seqEpoch_at h6 rfl (wpAny_bind (listUpdate_at h6 rfl ?_ (hsz2:=?_))))
    · simp only [bne_self_eq_false,Bool.false_eq_true,if_false]
      refine wpAny_pure (done (SortSt.mk' general' (pairsOf vs) #[] 7 none) (List.Perm.refl _) ?_)
      show Rise LInt (pairsOf vs).toList
      have hl:(pairsOf vs).toList.length<2:=by rw [Array.length_toList,pz];simpa using h2
      match (pairsOf vs).toList,hl with
      | [],_=>simp
      | [_],_=>simp
      | _::_::_,hl=>simp at hl;omega
    · rw [Array.size_map]
      exact Nat.le_trans (Nat.le_of_eq pz) (Nat.le_succ_of_le hz)
  · rw [if_neg h2,if_neg h2]
    obtain ⟨v1,v2,rest,ev⟩:∃ v1 v2 rest,vs=v1::v2::rest:=by
      match vs,h2 with
      | [],h2=>simp at h2
      | [_],h2=>simp at h2
      | v1::v2::rest,_=>exact ⟨v1,v2,rest,rfl⟩
    have kk:keyKind' vs.toArray=pure oneType':=by
      subst ev
      exact keyKind_ints hI
    rw [kk]
    refine wpAny_bind (wpAny_pure ?_)
    refine wpAny_bind (wpAny_mono (wpS_sortRunsL (all:=(pairsOf vs).toList) (st:=SortSt.mk' oneType' (pairsOf vs) #[] 7 none) (Q:=fun _ st'=>(arrOf st').toList.Perm (pairsOf vs).toList∧failedOf st'=none∧Rise LInt (arrOf st').toList)
      cmp_int hI.intKeys rfl rfl rfl rfl fun st' f1 p1 r1=>⟨p1,f1,r1⟩) ?_ fun _ _ e=>e)
    rintro ⟨⟨⟩,st'⟩ s' ⟨rfl,hp,hf,hr⟩
    dsimp only
    refine wpAny_bind (seqEpoch_at h6 rfl (wpAny_bind (listUpdate_at h6 rfl ?_ (hsz2:=?_))))
    · rw [hf]
      simp only [bne_self_eq_false,Bool.false_eq_true,if_false]
      exact wpAny_pure (done st' hp hr)
    · rw [Array.size_map,← Array.length_toList,hp.length_eq,Array.length_toList]
      exact Nat.le_trans (Nat.le_of_eq pz) (Nat.le_succ_of_le hz)
end
end Srt
namespace L2
open PySem PySem.Spec PyProof.Rows
section
variable {X:Cx}
theorem boot_sorted:bootBuiltins "sorted"=some (.builtin "sorted"):=by decide +kernel
end
end L2
namespace Srt
open PySem PyProof.Rows PySem.W
section
variable {prog:Program}{w:World}{Ar:Around}{E:Value→Shared→Prop}{s:Shared}
end
end Srt
namespace L2
open PySem PySem.Spec PyProof.Rows
section
variable {X:Cx}
end
end L2
namespace SG
open PySem PySem.Spec PyProof.Rows
def Ris (xs:Array Nat):Prop:=∀ i j (hj:j<xs.size) (h:i<j),xs[i]<xs[j]
theorem Ris.le {xs:Array Nat}(r:Ris xs){i j:Nat}(hj:j<xs.size)(h:i≤j):xs[i]≤xs[j]:=by
  rcases Nat.lt_or_ge i j with q | q
  · exact Nat.le_of_lt (r i j hj q)
  · have:i=j:=Nat.le_antisymm h q
    subst this
    exact Nat.le_refl _
theorem go_ok {xs:Array Nat} (r:Ris xs) (j:Nat):∀ (n lo hi:Nat),hi-lo≤n→lo≤hi→hi≤xs.size→(∀ i (h:i<xs.size),i<lo→xs[i]<j)→(∀ i (h:i<xs.size),hi≤i→j≤xs[i]) →
    (∀ i (h:i<xs.size),i<SetTable.below.go xs j n lo hi→xs[i]<j)∧(∀ i (h:i<xs.size),SetTable.below.go xs j n lo hi≤i→j≤xs[i])∧SetTable.below.go xs j n lo hi≤xs.size
  | 0,lo,hi,hn,h1,h2,a,b=>by
    have e:lo=hi:=by omega
    subst e
    unfold SetTable.below.go
    exact ⟨a,b,h2⟩
  | n + 1,lo,hi,hn,h1,h2,a,b=>by
    unfold SetTable.below.go
    by_cases q:lo<hi
    · rw [if_pos q]
      have hm:(lo+hi)/2<xs.size:=by omega
      have eg:xs.getD ((lo+hi)/2) j=xs[(lo+hi)/2]:=by simp [Array.getD,hm]
      dsimp only
      rw [eg]
      by_cases c:xs[(lo+hi)/2]<j
      · rw [if_pos c]
        refine go_ok r j n ((lo+hi)/2+1) hi (by omega) (by omega) h2 (fun i h hi'=>?_) b
        exact Nat.lt_of_le_of_lt (r.le hm (by omega)) c
      · rw [if_neg c]
        refine go_ok r j n lo ((lo+hi)/2) (by omega) (by omega) (by omega) a (fun i h hi'=>?_)
        exact Nat.le_trans (Nat.le_of_not_lt c) (r.le h hi')
    · rw [if_neg q]
      have e:lo=hi:=by omega
      subst e
      exact ⟨a,b,h2⟩
theorem below_ok {xs:Array Nat}(r:Ris xs)(j:Nat):(∀ i (h:i<xs.size),i<SetTable.below xs j→xs[i]<j)∧(∀ i (h:i<xs.size),SetTable.below xs j≤i→j≤xs[i])∧SetTable.below xs j≤xs.size:=by
  unfold SetTable.below
  exact go_ok r j xs.size 0 xs.size (by omega) (by omega) (Nat.le_refl _) (fun i h z=>absurd z (Nat.not_lt_zero _)) (fun i h z=>absurd h (by omega))
theorem ris_iff {xs:Array Nat}:Ris xs↔xs.toList.Pairwise (·<·):=by
  rw [List.pairwise_iff_getElem]
  constructor
  · intro r i j hi hj h
    have:=r i j (by simpa using hj) h
    simpa using this
  · intro r i j hj h
    have:=r i j (by simp;omega) (by simpa using hj) h
    simpa using this
theorem ris_put {xs:Array Nat}(r:Ris xs){j:Nat}(n:xs[SetTable.below xs j]?≠some j):Ris (SetTable.insertAt xs (SetTable.below xs j) j):=by
  obtain ⟨a,b,c⟩:=below_ok r j
  have b':∀ i (h:i<xs.size),SetTable.below xs j≤i→j<xs[i]:=by
    intro i h q
    have h1:=b i h q
    rcases Nat.lt_or_ge j xs[i] with z | z
    · exact z
    · exfalso
      have e:xs[i]=j:=Nat.le_antisymm z h1
      have hp:SetTable.below xs j<xs.size:=by omega
      have e2:xs[SetTable.below xs j]=j:=Nat.le_antisymm (by have:=r.le h q;omega) (b _ hp (Nat.le_refl _))
      apply n
      rw [Array.getElem?_eq_getElem hp,e2]
  generalize SetTable.below xs j=p at a b' c
  rw [ris_iff] at r ⊢
  unfold SetTable.insertAt
  have e:((xs.extract 0 p).push j++xs.extract p xs.size).toList=xs.toList.take p++j::xs.toList.drop p:=by
    simp [Array.toList_extract,List.extract]
    exact List.take_of_length_le (by rw [List.length_drop,Array.length_toList];exact Nat.le_refl _)
  rw [e,List.pairwise_append]
  refine ⟨r.sublist (List.take_sublist _ _),?_,?_⟩
  · rw [List.pairwise_cons]
    refine ⟨fun y hy=>?_,r.sublist (List.drop_sublist _ _)⟩
    obtain ⟨i,hi,rfl⟩:=List.mem_iff_getElem.mp hy
    rw [List.getElem_drop]
    have hl:p+i<xs.size:=by rw [List.length_drop,Array.length_toList] at hi;omega
    have:=b' (p+i) hl (by omega)
    simpa using this
  · intro y hy z hz
    have hy1:y<j:=by
      obtain ⟨i,hi,rfl⟩:=List.mem_iff_getElem.mp hy
      rw [List.getElem_take]
      have hl:i<p:=by rw [List.length_take] at hi;omega
      have:=a i (by rw [List.length_take,Array.length_toList] at hi;omega) hl
      simpa using this
    rcases List.mem_cons.mp hz with rfl | hz
    · exact hy1
    · obtain ⟨i,hi,rfl⟩:=List.mem_iff_getElem.mp hz
      rw [List.getElem_drop]
      have hl:p+i<xs.size:=by rw [List.length_drop,Array.length_toList] at hi;omega
      have:=b' (p+i) hl (by omega)
      have:j<xs.toList[p+i]'(by simpa using hl):=by simpa using this
      omega
theorem probe_free {t:SetTable} {f:Nat→Int} {h:Int}:∀ (n:Nat) (p:SetTable.Probe) (j:Nat) (d:Option Nat),(∀ x,p.dummy=some x→t.slot x=.dummy)→SetTable.probe.go t f h n p=some (.empty j d)→(t.slot j=.empty)∧∀ x,d=some x→t.slot x=.dummy
  | 0,p,j,d,hd,e=>by unfold SetTable.probe.go at e;cases e
  | n + 1,p,j,d,hd,e=>by
    unfold SetTable.probe.go at e
    have adv:∀ q:SetTable.Probe,(t.advance q).dummy=q.dummy:=by
      intro q
      unfold SetTable.advance
      split<;>rfl
    split at e
    · rename_i hs
      cases e
      exact ⟨hs,hd⟩
    · rename_i hs
      refine probe_free n _ j d (fun x hx=>?_) e
      rw [adv] at hx
      cases hx
      exact hs
    · split at e
      · cases e
      · refine probe_free n _ j d (fun x hx=>?_) e
        rw [adv] at hx
        exact hd x hx
theorem slot_not {t:SetTable}{j:Nat}(h:t.slot j=.empty∨t.slot j=.dummy):t.place[SetTable.below t.place j]?≠some j:=by
  intro e
  unfold SetTable.slot at h
  simp only [e,beq_self_eq_true,if_true] at h
  rcases h with h | h<;>cases h
theorem free_not {t:SetTable}{h:Int}{j:Nat}{b:Bool}(e:t.freeSlot h=some (j,b)):t.place[SetTable.below t.place j]?≠some j:=by
  unfold SetTable.freeSlot at e
  split at e
  · rename_i j0 d hp
    unfold SetTable.probe at hp
    obtain ⟨h1,h2⟩:=probe_free _ _ _ _ (fun x hx=>by cases hx) hp
    cases e
    cases d with
    | none=>exact slot_not (.inl h1)
    | some x=>exact slot_not (.inr (h2 x rfl))
  · cases e
structure Good (bt:Bool)(t:SetTable):Prop where
  led:t.led=!bt
  ris:t.plain=true→Ris t.place
theorem Good.standIn {bt:Bool}{t:SetTable}(g:Good bt t)(n:Nat):Good bt (t.standIn n):=⟨g.led,fun h=>by cases h⟩
theorem Good.layNew {bt:Bool}{t:SetTable}(g:Good bt t)(es:Array (Int × Value))(h:Int)(x:Value):Good bt (layNew t es h x).2.1:=by
  unfold PySem.layNew
  split
  · rename_i j b e
    show Good bt ((t.put j).1.orStandIn _)
    have gp:Good bt (t.put j).1:=⟨g.led,fun hp=>ris_put (g.ris hp) (free_not e)⟩
    unfold SetTable.orStandIn
    split
    · exact gp
    · exact gp.standIn _
  · exact g.standIn _
theorem Good.relayAll {bt:Bool}{t:SetTable}(g:Good bt t)(es:Array (Int × Value))(n:Nat):Good bt (relayAll t es n).2.1:=by
  unfold PySem.relayAll
  split
  · rename_i t' ord e
    have gt:Good bt t':=by
      unfold SetTable.relaid SetTable.laid at e
      simp only [Option.bind_eq_bind,Option.bind_eq_some_iff,Option.pure_def] at e
      obtain ⟨ow,_,e⟩:=e
      cases e
      refine ⟨g.led,fun _=>?_⟩
      rw [ris_iff]
      show (List.map _ _).Pairwise _
      rw [List.pairwise_map]
      refine List.Pairwise.filterMap (R:=(·<·)) _ (fun a a' haa b hb c hc=>?_) List.pairwise_lt_range
      simp only [Option.map_eq_some_iff] at hb hc
      obtain ⟨_,_,rfl⟩:=hb
      obtain ⟨_,_,rfl⟩:=hc
      exact haa
    dsimp only
    split
    · exact gt
    · exact g.standIn _
  · exact g.standIn _
end SG
namespace SG
open PySem PySem.Spec PyProof.Rows
def iv:Value→Int
  | .int k _=>k
  | _=>0
def bt (w:World):Bool:=w.params.followText "set-order"
def ST (prog:Program)(w:World)(h:Heap)(a:Addr)(ks:List Int):Prop :=
  ∃ o es ep t,h.get? a=some o∧o.ExactSet∧o.data=.set es ep t∧ElemsOf (intKind prog w) es.toList∧es.size<scanBound∧t.fits es.size=true∧Good (bt w) t∧(es.toList.map fun e=>iv e.2)=ks∧ks.Nodup
section
variable {prog:Program}{w:World}{A:Around}{E:Value→Shared→Prop}{s:Shared}
theorem isInt_iv {k:Int}{e:Int × Value}{es:List (Int × Value)}(el:ElemsOf (intKind prog w) es)(he:e∈es):(intKind prog w).is k e.2=true↔iv e.2=k:=by
  obtain ⟨⟨k',h1,_⟩,_⟩:=el e he
  obtain ⟨t,e2⟩:=Value.isInt_shape h1
  rw [e2]
  constructor
  · intro h
    exact (intKind prog w).inj _ _ _ (intKind_is prog w k' t) h
  · intro h
    have h:k'=k:=h
    subst h
    exact intKind_is prog w k' t
theorem put_at {h:Heap}{a:Addr}{o:Obj}{es:Array (Int × Value)}{ep:Nat}{t:SetTable}(ho:h.get? a=some o)(hd:o.data=.set es ep t)(es':Array (Int × Value))(t':SetTable) :
    (h.update a (Obj.putSet es' t')).get? a=some { o with data:=.set es' (ep+1) t' }:=by
  have q:=Heap.get?_update_self (Obj.putSet es' t') ho (by rw [putSet_of es' t' hd];rfl)
  rw [putSet_of es' t' hd] at q
  exact q
theorem size_perm {es es':Array (Int × Value)}(p:es'.toList.Perm es.toList):es'.size=es.size:=by
  rw [← Array.length_toList,p.length_eq,Array.length_toList]
theorem tail_add {g:Bool→Sem Unit}(hg:∀ (b:Bool) (s1:Shared) (Q':Unit→Shared→Prop),Q' () s1→wpAny (model prog w) A (g b) Q' E s1){a:Addr}{o:Obj}{es:Array (Int × Value)}{ep:Nat}{t:SetTable}(ho:s.heap.get? a=some o)(hx:o.ExactSet)(hd:o.data=.set es ep t)
    {es1:Array (Int × Value)} {t2:SetTable} {wd:Bool} {R:Option Bool→Shared→Prop} (el:ElemsOf (intKind prog w) es1.toList) (hb:es1.size<scanBound) (hf:t2.fits es1.size=true) (gd:Good (bt w) t2) (nd:(es1.toList.map fun e=>iv e.2).Nodup)
    (q:∀ h' ks',Heap.SameBut a s.heap h'→ST prog w h' a ks'→ks'.Perm (es1.toList.map fun e=>iv e.2)→R (some true) { s with heap:=h' }) :
    wpAny (model prog w) A (do storeSet a es1 t2;if (!wd&&t2.tooFull)=true then (do g (relayAll t2 es1 (SetTable.grown es1.size)).2.2;storeSet a (relayAll t2 es1 (SetTable.grown es1.size)).1 (relayAll t2 es1 (SetTable.grown es1.size)).2.1;pure (some true)) else pure (some true)) R E s:=by
  refine wpAny_bind (wpAny_storeSet_of ho hd ?_ (fits_of_scanBound hb))
  have ho1:=put_at ho hd es1 t2
  have sb:=Heap.SameBut.update s.heap a (Obj.putSet es1 t2)
  split
  · have pp:=relayAll_perm t2 es1 (SetTable.grown es1.size)
    have pf:=relayAll_fits t2 es1 (SetTable.grown es1.size)
    have pg:=gd.relayAll es1 (SetTable.grown es1.size)
    generalize relayAll t2 es1 (SetTable.grown es1.size)=Z at pp pf pg ⊢
    obtain ⟨es2,t3,gv⟩:=Z
    have pp:es2.toList.Perm es1.toList:=pp
    have hb2:es2.size<scanBound:=by rw [size_perm pp];exact hb
    refine wpAny_bind (hg _ _ _ (wpAny_bind (wpAny_storeSet_of ho1 rfl ?_ (fits_of_scanBound hb2))))
    refine wpAny_pure (q _ _ (sb.trans (Heap.SameBut.update _ a _)) ⟨_,es2,_,t3,put_at ho1 rfl es2 t3,hx,rfl,el.perm pp,hb2,pf,pg,rfl,?_⟩ (pp.map _))
    exact (pp.map fun e=>iv e.2).nodup_iff.mpr nd
  · exact wpAny_pure (q _ _ sb ⟨_,es1,_,t2,ho1,hx,rfl,el,hb,hf,gd,rfl,nd⟩ (.refl _))
theorem add_int {a:Addr} {ks:List Int} {k:Int} {tk:Tok} {Q:Bool→Shared→Prop} (hS:ST prog w s.heap a ks) (room:ks.length+1<scanBound)
    (q:∀ b h' ks',Heap.SameBut a s.heap h'→ST prog w h' a ks'→(∀ y,y∈ks'↔y∈ks∨y=k)→ks'.length≤ks.length+1→Q b { s with heap:=h' }):wpAny (model prog w) A (setAddHashed a (.int k tk) ((intKind prog w).hash k)) Q E s:=by
  obtain ⟨o,es,ep,t,ho,hx,hd,el,hb,hf,gd,rfl,nd⟩:=hS
  have hk:=intKind_is prog w k tk
  have lz:(es.toList.map fun e=>iv e.2).length=es.size:=by rw [List.length_map,Array.length_toList]
  unfold setAddHashed;unfold setAddHashedIn;refine wpAny_holding (wpAny_bind (wpAny_setState_of ho hd hf ?_));dsimp only
  rw [byScan_of (x:=Value.int k tk) rfl hb el,if_pos rfl]
  unfold setAddByScan
  refine wpAny_bind (wpAny_bind (wpAny_rule (wpAny_bind (wpAny_setScan_of hk ho hd hf el ?_))))
  cases hr:List.findIdx? (fun e=>(intKind prog w).is k e.2) es.toList with
  | some j =>
    dsimp only
    obtain ⟨hj,pj,_⟩:=List.findIdx?_eq_some_iff_getElem.mp hr
    have hm:k∈es.toList.map fun e=>iv e.2:=List.mem_map.mpr ⟨_,List.getElem_mem hj,(isInt_iv el (List.getElem_mem hj)).mp pj⟩
    refine wpAny_pure (wpAny_pure ?_)
    have:=q false s.heap _ (Heap.SameBut.refl a s.heap) ⟨o,es,ep,t,ho,hx,hd,el,hb,hf,gd,rfl,nd⟩ (fun y=>⟨.inl,fun z=>z.elim id fun e=>e ▸ hm⟩) (Nat.le_succ _)
    exact this
  | none =>
    dsimp only
    have hm:k∉es.toList.map fun e=>iv e.2:=by
      intro z
      obtain ⟨e,he,e1⟩:=List.mem_map.mp z
      have:=List.findIdx?_eq_none_iff.mp hr e he
      rw [(isInt_iv el he).mpr e1] at this
      cases this
    have gw:∀ (b:Bool) (s1:Shared) (Q':Unit→Shared→Prop),Q' () s1→wpAny (model prog w) A (match b with | true=>rule "set.scan.the-table-gave-way" | false=>pure ()) Q' E s1:=fun b s1 Q' z=>by
      cases b
      · exact wpAny_pure z
      · exact wpAny_rule z
    have lp:=layNew_perm t es ((intKind prog w).hash k) (.int k tk)
    have lf:=layNew_fits t es ((intKind prog w).hash k) (.int k tk)
    have lg:=gd.layNew es ((intKind prog w).hash k) (.int k tk)
    generalize layNew t es ((intKind prog w).hash k) (.int k tk)=Z at lp lf lg ⊢
    obtain ⟨es1,t1,wd,gv⟩:=Z
    have lf:t1.fits es1.size=true:=lf
    have lg:Good (bt w) t1:=lg
    have lp:es1.toList.Perm (es.toList++[((intKind prog w).hash k,.int k tk)]):=by
      have:=lp
      rwa [Array.toList_push] at this
    have el1:ElemsOf (intKind prog w) es1.toList:=(el.push hk rfl).perm lp
    have l1:es1.size=es.size+1:=by
      have:=lp.length_eq
      rw [List.length_append,Array.length_toList,Array.length_toList] at this
      exact this
    have hb1:es1.size<scanBound:=by rw [l1];rw [lz] at room;exact room
    have pm:(es1.toList.map fun e=>iv e.2).Perm ((es.toList.map fun e=>iv e.2)++[k]):=by
      have:=lp.map fun e=>iv e.2
      rwa [List.map_append] at this
    have nd1:(es1.toList.map fun e=>iv e.2).Nodup:=by
      rw [pm.nodup_iff,List.nodup_append]
      exact ⟨nd,(by simp),fun x hx y hy e=>hm (by rw [List.mem_singleton.mp hy] at e;rw [← e];exact hx)⟩
    have fin:∀ h' ks',Heap.SameBut a s.heap h'→ST prog w h' a ks'→ks'.Perm (es1.toList.map fun e=>iv e.2)→Q true { s with heap:=h' }:=fun h' ks' sb st p=>by
      refine q true h' ks' sb st (fun y=>?_) ?_
      · rw [p.mem_iff,pm.mem_iff,List.mem_append,List.mem_singleton]
      · rw [p.length_eq,List.length_map,Array.length_toList,l1,lz]
        exact Nat.le_refl _
    dsimp only
    refine wpAny_bind (gw _ _ _ ?_)
    split
    · refine wpAny_bind ?_
      rw [hashByValue_scannable 8 (x:=Value.int k tk) rfl]
      refine wpAny_pure (tail_add (fun b s1 Q' z=>gw b s1 Q' z) ho hx hd el1 hb1 ?_ ?_ nd1 fun h' ks' sb st p=>wpAny_pure (fin h' ks' sb st p))
      · exact lf
      · exact lg
    · refine wpAny_bind (wpAny_pure (tail_add (fun b s1 Q' z=>gw b s1 Q' z) ho hx hd el1 hb1 ?_ ?_ nd1 fun h' ks' sb st p=>wpAny_pure (fin h' ks' sb st p)))
      · exact lf
      · exact lg
set_option maxHeartbeats 3200000 in
end
end SG
namespace SG
open PySem PySem.Spec PyProof.Rows
section
variable {prog:Program}{w:World}{A:Around}{E:Value→Shared→Prop}{s:Shared}{a:Addr}{o:Obj}{es:Array (Int × Value)}{ep:Nat}{t:SetTable}
end
end SG
namespace SG
open PySem PySem.Spec PyProof.Rows
section
variable {prog:Program}{w:World}{A:Around}{E:Value→Shared→Prop}{s:Shared}{a I:Addr}{o:Obj}{es:Array (Int × Value)}{ep:Nat}{t:SetTable}
end
end SG
namespace SG
open PySem PySem.Spec PyProof.Rows
structure Wk (prog:Program)(w:World)(h0 h2:Heap)(a:Addr)(ks:List Int)(I:Addr):Prop where
  ex:∃ (fp wr:List Addr) (vs:List Value) (ks':List Int) (St:Nat→Heap→Prop),(∀ A:Around,A.handled=none→Walks prog w A I fp wr vs.length (fun i v=>vs[i]?=some v) St)∧St 0 h2∧(∀ b∈fp,b<h2.objs.size)∧I∈fp∧(∀ b∈wr,h0.get? b=none)∧IntsAre vs ks'∧ks'.Perm ks∧(∀ b∈fp,b=a∨h0.get? b=none)
  old:∀ b o,h0.get? b=some o→h2.get? b=some o
section
variable {prog:Program}{w:World}{A:Around}{E:Value→Shared→Prop}{s:Shared}{a I:Addr}{o:Obj}{es:Array (Int × Value)}{ep:Nat}{t:SetTable}
end
end SG
namespace SG
open PySem PySem.Spec PyProof.Rows
section
variable {prog:Program}{w:World}{A:Around}{E:Value→Shared→Prop}{s:Shared}{a:Addr}
end
end SG
namespace SG
open PySem PySem.Spec PyProof.Rows Srt
section
variable {prog:Program}{w:World}{Ar:Around}{E:Value→Shared→Prop}{s:Shared}{a:Addr}
end
end SG
namespace L2
open PySem PySem.Spec PyProof.Rows
section
variable {X:Cx}{pins:List (Addr × Obj)}{σ:St}{H:Hp}{s:Shared}
end
section
variable {X:Cx}{e:Expr}{te:TE}{p p' pos pos':Pos}
end
end L2
namespace L2
open PySem PySem.Spec PyProof.Rows Srt SG
theorem hu1 {A:Around}{k:Nat}(hr:Room k A):A.units+1<cLine:=Nat.lt_of_le_of_lt (by omega) (hu64 hr)
section
variable {td ty tx tv:TE}{σ:St}{H:Hp}{Q:VK}{D:Ends}
theorem tDGet_ap:tDGet td ty σ H Q=td σ H fun x H1=>ty σ H1 fun y H2=>∃ a v,x=.ref a∧DGet H2 a y (some v)∧Q v H2:=rfl
theorem sDPut_ap:sDPut td ty tv D σ H=tv σ H fun v H1=>td σ H1 fun x H2=>ty σ H2 fun y H3=>∃ a H4,x=.ref a∧DPut H3 a y v H4∧D.nx σ H4:=rfl
end
theorem intsAre_get:∀ {vs:List Value} {ns:List Int},vs.length=ns.length→(∀ (j:Nat) (v:Value),vs[j]?=some v→∃ i t,ns[j]?=some i∧v=Value.int i t)→IntsAre vs ns
  | [],[],_,_=>.nil
  | [],_::_,h,_=>by cases h
  | _::_,[],h,_=>by cases h
  | v::vs,n::ns,h,g=>by
    obtain ⟨i,t,e,rfl⟩:=g 0 v rfl
    cases (show n=i from Option.some.inj e)
    exact .cons n t (intsAre_get (Nat.succ.inj h) fun j v e=>g (j+1) v e)
section
variable {X:Cx}{x:Str}{p pos:Pos}
end
section
variable {X:Cx}
def rSortD:List V→Hp→VK→Prop:=fun xs H Q=>∃ (a:Addr) (kvs:List (Key × V)) (ns:List Int),xs=[.ref a]∧H a=some (.dK kvs)∧kvs.map (·.1)=ns.map Sum.inl∧∀ (l:Addr) (ns':List Int),H l=none→ns'.Perm ns→ns'.Pairwise (·≤·)→Q (.ref l) (upd H l (.lst (ns'.map V.int)))
theorem rSortD_ap {xs:List V}{H:Hp}{Q:VK}:rSortD xs H Q=∃ (a:Addr) (kvs:List (Key × V)) (ns:List Int),xs=[.ref a]∧H a=some (.dK kvs)∧kvs.map (·.1)=ns.map Sum.inl∧∀ (l:Addr) (ns':List Int),H l=none→ns'.Perm ns→ns'.Pairwise (·≤·)→Q (.ref l) (upd H l (.lst (ns'.map V.int))):=rfl
theorem call_sortedD (hc:X.calm=true:=by rfl):CallR X (.builtin "sorted") rSortD:=by
  intro pins s σ H xs us Q I r h
  obtain ⟨a,kvs,ns,rfl,ha,hk,q⟩:=h
  obtain ⟨u,rfl,ru⟩:=r.one
  cases (show u=Value.ref a from ru)
  obtain ⟨hz,lo,vs,kv,o,es,ep,g1,g2,g3,g4,g5,g6⟩:=dk_of I.hok ha
  have lk:kvs.length=vs.length:=kv.length
  have ln:ns.length=kvs.length:=by have:=congrArg List.length hk;rw [List.length_map,List.length_map] at this;exact this.symm
  refine Calls.call_function_entry kind_sorted plain_sorted entry_sorted (args_sorted1 _) ?_
  unfold Builtin.«sorted»
  refine wpAny_bind (m:=checkCount "sorted" 1 1 _) (wpAny_pure ?_)
  refine wpAny_bind (PySem.W.kdu_collect (A:=X.A.in1) (PySem.W.kdl_dict (knd:=mixKind X.prog X.w) (kvs:=vs) (ep:=ep) lo) (show X.A.in1.handled=none from I.ok.hd hc) ⟨o,es,g1,g2,g3,g4,g5,g6⟩ (by omega) fun h1 tk acc old hacc=>?_)
  have hi:IntsAre acc.toList ns:=by
    refine intsAre_get (by rw [Array.length_toList,hacc.1];omega) fun j v hv=>?_
    obtain ⟨k,y,e1,e2⟩:=hacc.2 j v (by rw [← Array.getElem?_toList];exact hv)
    have ek:(vs.map (·.1))[j]?=some k:=by rw [List.getElem?_map,e1];rfl
    rw [← kv.keys,hk,List.getElem?_map] at ek
    cases en:ns[j]? with
    | none=>rw [en] at ek;cases ek
    | some i =>
      rw [en] at ek
      cases (show Sum.inl i=k from Option.some.inj ek)
      rw [mixKind_is] at e2
      rcases keyIs_shape e2 with ⟨i',t,z1,z2⟩ | ⟨x,t,z1,z2⟩
      · cases z1
        exact ⟨i,t,rfl,z2⟩
      · cases z1
  have lv:acc.toList.length≤sizeLine:=by rw [IntsAre.length hi];omega
  refine wpAny_bind (wpAny_newList ?_ (by simpa using lv))
  have oL:(h1.push (seqObj "list" acc.toList.toArray 0)).get? h1.objs.size=some (seqObj "list" acc.toList.toArray 0):=Heap.get?_push_size _ rfl
  show wpAny _ _ _ _ _ { s with heap:=h1.push (seqObj "list" acc.toList.toArray 0),toks:=tk }
  refine wpAny_bind (wpAny_holding (wpAny_call_entry slot_list_sort ⟨_,oL,rfl⟩ entry_list_sort (Srt.sort_ints oL hi lv fun out ns' g1 g2 g3=>⟨_,rfl,?_⟩) (args_list_sort _)))
  obtain ⟨e,he⟩:=sortedHeap_at (out:=out) oL
  have I1:Inv X pins σ H { s with heap:=h1,toks:=tk }:=I.kept old
  have lo2:(ns'.map V.int).length≤sizeLine:=by rw [List.length_map,g2.length_eq];omega
  refine wpAny_pure ⟨_,rfl,.ref h1.objs.size,_,I1.laid (t':=tk) (o:=.lst (ns'.map V.int)) (fun b u e2=>?_) (Nat.le_refl _) ⟨lo2,out.toList,e,vals_ints g1,by rw [Array.toArray_toList];exact he⟩,rfl,q _ ns' (I1.hok.fresh (Nat.le_refl _)) g2 g3⟩
  have lb:b<h1.objs.size:=Heap.lt_size e2
  rw [sortedHeap_old (Nat.ne_of_lt lb) (by rw [size_push'];exact Nat.lt_succ_of_lt lb)]
  exact Heap.get?_push_of_some _ e2
end
end L2
namespace L2
open PySem PySem.Spec PyProof.Rows
def del (H:Hp)(p:Addr):Hp:=fun b=>if b=p then none else H b
theorem del_same {H:Hp}{p:Addr}:del H p p=none:=by unfold del;rw [if_pos rfl]
theorem del_ne {H:Hp}{p b:Addr}(h:b≠p):del H p b=H b:=by unfold del;rw [if_neg h]
theorem del_some {H:Hp}{p b:Addr}{o:HO}(h:del H p b=some o):b≠p∧H b=some o:=by
  have n:b≠p:=fun z=>by rw [z,del_same] at h;cases h
  rw [del_ne n] at h
  exact ⟨n,h⟩
section
variable {X:Cx}{pins:List (Addr × Obj)}{σ:St}{H H':Hp}{s:Shared}{p:Addr}{xs:List V}
end
section
variable {X:Cx}{P:Program}{w:World}{K:PySem.W.Frag}{mg:Str→Option Value}{base:Heap}{o e:Expr}{es:List Expr}{m:Str}{ta:TE}{t:TA}{apos pos:Pos}
end
end L2
namespace L2
open PySem PySem.Spec PyProof.Rows
section
variable {td ty tx:TE}{σ:St}{H:Hp}{Q:VK}
end
end L2
namespace L2
open PySem PySem.Spec PyProof.Rows
section
variable {X:Cx}{o e f:Expr}{apos cpos:Pos}{td ty tx:TE}
end
end L2
namespace L2
open PySem PySem.Spec PyProof.Rows
section
variable {X:Cx}
theorem boot_allB:bootBuiltins "all"=some (.builtin "all"):=by decide +kernel
def rAll (K:PySem.W.Frag):List V→Hp→VK→Prop:=fun xs H Q=>∃ (p:Addr) (bs:List Bool),xs=[.ref p]∧SqL K H p (bs.map V.bl)∧Q (.bl (bs.all id)) H
theorem call_allK (K:PySem.W.Frag) (hK:X.K=K:=by rfl) (hc:X.calm=true:=by rfl):CallR X (.builtin "all") (rAll K):=by
  subst hK
  intro pins s σ H xs us Q I r h
  obtain ⟨p,bs,rfl,hS,q⟩:=h
  obtain ⟨u,rfl,ru⟩:=r.one
  cases (show u=Value.ref p from ru)
  obtain ⟨its,vi,pl,hz⟩:=I.list hS
  have ne:p≠s.heap.objs.size:=by obtain ⟨o,e,_⟩:=pl.isList;exact Nat.ne_of_lt (Heap.lt_size e)
  have hb:∀ (i:Nat) (v:Value),its.toArray[i]?=some v→v=.bool (bs.getD i false):=fun i v e=>by
    have e2:its[i]?=some v:=by simpa using e
    have hi:i<bs.length:=by
      have:=(List.getElem?_eq_some_iff.mp e2).1
      have:=vi.length
      rw [List.length_map] at this
      omega
    obtain ⟨u,hu,ru⟩:=vi.get (i:=i) (x:=.bl (bs.getD i false)) (by rw [List.getElem?_map,List.getElem?_eq_getElem hi,List.getD_eq_getElem?_getD,List.getElem?_eq_getElem hi];rfl)
    rw [hu] at e2
    cases e2
    exact ru
  refine call_all_walk (wpAny_pyIter_list pl.isList ?_)
  refine ⟨s.heap.objs.size,_,_,_,_,_,fun i=>bs.getD i false,rfl,Walks.list (A:=X.A.in1) (show X.A.in1.handled=none from I.ok.hd hc) s.heap.objs.size p ne its.toArray,⟨⟨_,Heap.get?_push_size _ rfl,rfl,rfl⟩,pl.isList.push _⟩,fun i v s2 Q2 E2 hP hQ=>?_,fun h' tk hk=>?_⟩
  · rw [hb i v hP]
    exact wpAny_truthy_bool hQ
  · have e:(List.range its.toArray.size).all (fun i=>bs.getD i false)=bs.all id:=by
      have hl:its.toArray.size=bs.length:=by
        have:=vi.length
        rw [List.length_map] at this
        simpa using this.symm
      rw [hl,Bool.eq_iff_iff,List.all_eq_true,List.all_eq_true]
      constructor
      · intro w b hbm
        obtain ⟨i,hi,rfl⟩:=List.mem_iff_getElem.mp hbm
        have:=w i (List.mem_range.mpr hi)
        rw [List.getD_eq_getElem?_getD,List.getElem?_eq_getElem hi] at this
        exact this
      · intro w i hi
        have hi:=List.mem_range.mp hi
        rw [List.getD_eq_getElem?_getD,List.getElem?_eq_getElem hi]
        exact w _ (List.getElem_mem hi)
    rw [e]
    refine ⟨.bl (bs.all id),H,?_,rfl,q⟩
    exact I.kept (t':=tk) fun b o q2=>hk b o (by
      intro z
      have:b=s.heap.objs.size:=by simpa using z
      exact absurd (Heap.lt_size q2) (by rw [this];exact Nat.lt_irrefl _)) (Heap.get?_push_of_some _ q2)
theorem rAll_ap {K:PySem.W.Frag}{xs:List V}{H:Hp}{Q:VK}:rAll K xs H Q=∃ (p:Addr) (bs:List Bool),xs=[.ref p]∧SqL K H p (bs.map V.bl)∧Q (.bl (bs.all id)) H:=rfl
end
end L2
namespace L2
open PySem PySem.Spec PyProof.Rows
section
variable {X:Cx}
theorem boot_anyB:bootBuiltins "any"=some (.builtin "any"):=by decide +kernel
def rAny (K:PySem.W.Frag):List V→Hp→VK→Prop:=fun xs H Q=>∃ (p:Addr) (bs:List Bool),xs=[.ref p]∧SqL K H p (bs.map V.bl)∧Q (.bl (bs.any id)) H
theorem rAny_ap {K:PySem.W.Frag}{xs:List V}{H:Hp}{Q:VK}:rAny K xs H Q=∃ (p:Addr) (bs:List Bool),xs=[.ref p]∧SqL K H p (bs.map V.bl)∧Q (.bl (bs.any id)) H:=rfl
theorem range_getD (bs:List Bool):(List.range bs.length).map (fun i=>bs.getD i false)=bs:=by
  refine List.ext_getElem (by rw [List.length_map,List.length_range]) fun i h1 h2=>?_
  rw [List.getElem_map,List.getElem_range,List.getD_eq_getElem?_getD,List.getElem?_eq_getElem h2]
  rfl
theorem call_anyK (K:PySem.W.Frag)(hK:X.K=K:=by rfl)(hc:X.calm=true:=by rfl):CallR X (.builtin "any") (rAny K):=by
  subst hK
  intro pins s σ H xs us Q I r h
  obtain ⟨p,bs,rfl,hS,q⟩:=h
  obtain ⟨u,rfl,ru⟩:=r.one
  cases (show u=Value.ref p from ru)
  obtain ⟨its,vi,pl,hz⟩:=I.list hS
  have ll:its.length=bs.length:=by
    have:=vi.length
    rw [List.length_map] at this
    exact this.symm
  have lt:p<s.heap.objs.size:=by
    obtain ⟨o,e,_⟩:=pl.isList
    exact Heap.lt_size e
  refine call_any_walk (wpAny_pyIter_list pl.isList ⟨s.heap.objs.size,_,_,_,_,_,fun i=>bs.getD i false,rfl,Walks.list (A:=X.A.in1) (I.ok.hd hc) s.heap.objs.size p (Nat.ne_of_lt lt) its.toArray,⟨⟨_,Heap.get?_push_size _ rfl,rfl,rfl⟩,pl.isList.push _⟩,fun i v s2 Q2 E2 hP hQ=>?_,fun h' tk hk=>⟨.bl (bs.any id),H,I.kept (t':=tk) fun b o q2=>hk b o (fun z=>?_) (Heap.get?_push_of_some _ q2),?_,q⟩⟩)
  · have hP:its[i]?=some v:=by simpa using hP
    have hi:i<bs.length:=by have:=(List.getElem?_eq_some_iff.mp hP).1;omega
    obtain ⟨y,hy,ry⟩:=vi.get (i:=i) (x:=.bl (bs.getD i false)) (by rw [List.getElem?_map,List.getElem?_eq_getElem hi,List.getD_eq_getElem?_getD,List.getElem?_eq_getElem hi];rfl)
    cases hP.symm.trans hy
    cases ry
    exact wpAny_truthy_bool hQ
  · have z:b=s.heap.objs.size:=by simpa using z
    exact Nat.lt_irrefl _ (z ▸ Heap.lt_size q2)
  · show Value.bool _=Value.bool _
    rw [List.size_toArray,ll]
    congr 1
    have:=range_getD bs
    conv=>rhs;rw [← this,List.any_map]
    rfl
def rDictOf:List V→Hp→VK→Prop:=fun xs H Q=>∃ (a:Addr) (kvs:List (Key × V)),xs=[.ref a]∧H a=some (.dK kvs)∧∀ p,H p=none→Q (.ref p) (upd H p (.dK kvs))
theorem rDictOf_ap {xs:List V}{H:Hp}{Q:VK}:rDictOf xs H Q=∃ (a:Addr) (kvs:List (Key × V)),xs=[.ref a]∧H a=some (.dK kvs)∧∀ p,H p=none→Q (.ref p) (upd H p (.dK kvs)):=rfl
theorem call_dictOf:CallR X (.type "dict") rDictOf:=by
  intro pins s σ H xs us Q I r h
  obtain ⟨a,kvs,rfl,e,q⟩:=h
  obtain ⟨u,rfl,ru⟩:=r.one
  cases (show u=Value.ref a from ru)
  obtain ⟨z,hd,vs,rel,dd⟩:=dk_of I.hok e
  have big:(s.heap.objs.size==sysModules)=false:=by
    have:=(dk_empty (P:=X.prog) (w:=X.w) (H:=H) s.heap I.big).2.1
    exact this
  refine kt_call_dict hd dd (by rw [← rel.length];exact z) fun h' d' sb=>⟨.ref s.heap.objs.size,_,I.laid (a:=s.heap.objs.size) (o:=.dK kvs) (t':=s.toks) (fun b o q2=>(sb.2 b (Nat.ne_of_lt (Heap.lt_size q2))).trans (Heap.get?_push_of_some _ q2)) (Nat.le_refl _) (dk_new z big rel d'),rfl,q _ (I.hok.fresh (Nat.le_refl _))⟩
theorem valV_nd:∀ {kvs:List (Key × V)} {k:Key} {v:V},(kvs.map (·.1)).Nodup→(k,v)∈kvs→valV kvs k=some v
  | [],_,_,_,h=>nomatch h
  | (k',v')::r,k,v,nd,h=>by
    obtain ⟨n1,n2⟩:=List.nodup_cons.mp nd
    unfold valV
    rw [List.find?_cons]
    rcases List.mem_cons.mp h with e | e
    · cases e
      simp
    · have ne:k'≠k:=fun z=>n1 (z ▸ List.mem_map.mpr ⟨_,e,rfl⟩)
      simp only [ne,decide_false]
      exact valV_nd n2 e
theorem hits_same {A:Around}{s:Shared}{kvs:List (Key × V)}{vb:List (Key × Value)}(nd:(kvs.map (·.1)).Nodup)(hi:∀ kv∈kvs,∃ i,kv.2=.int i)(rb:KV kvs vb):∀ {ks:List (Key × V)} {va:List (Key × Value)},(∀ x∈ks,x∈kvs)→KV ks va→PySem.W.KeqHits A s vb va true
  | [],_,_,.nil=>.nil
  | (k,v)::r,(k',v')::q,hs,.cons h t=>by
    obtain ⟨ek,rv⟩:=h
    have ek:k'=k:=by first | exact ek | exact ek.symm
    subst ek
    obtain ⟨i,e⟩:=hi _ (hs _ (.head _))
    have e:v=.int i:=e
    subst e
    have y:=rb.val k'
    rw [valV_nd nd (hs _ (.head _))] at y
    cases z:valueAt vb k' with
    | none=>rw [z] at y;exact absurd y (by intro q;cases q)
    | some u =>
      rw [z] at y
      obtain ⟨t1,rfl⟩:=(show RelV (.int i) v' from rv)
      obtain ⟨t2,rfl⟩:=(show RelV (.int i) u from y)
      have eq:=PySem.W.keq_flat (A:=A) (s:=s) (v:=.int i t1) (y:=.int i t2) (d:=.int i) (e:=.int i) (fun _=>.int ..) (fun _=>.int ..)
      have h3:=PySem.W.KeqHits.hit (A:=A) (s:=s) z eq (hits_same nd hi rb (fun x hx=>hs x (.tail _ hx)) t)
      have e1:(PyData.eqv (.int i) (.int i)&&true)=true:=by simp [PyData.eqv]
      rw [e1] at h3
      exact h3
end
end L2
namespace L2
open PySem PySem.Spec PyProof.Rows
def Top (f:Nat→Int)(d m:Int)(j:Nat):Prop:=(j=0→m=d)∧(0<j→(∃ i,i<j∧f i=m)∧∀ i,i<j→f i≤m)
theorem Top.more {f:Nat→Int}{d m:Int}{j:Nat}(h:Top f d m j)(hj:0<j)(hm:f j≤m):Top f d m (j+1):=by
  obtain ⟨⟨i,hi,e⟩,a⟩:=h.2 hj
  refine ⟨fun z=>by omega,fun _=>⟨⟨i,by omega,e⟩,fun x hx=>?_⟩⟩
  by_cases z:x=j
  · rw [z];exact hm
  · exact a x (by omega)
theorem Top.new {f:Nat→Int}{d m:Int}{j:Nat}(h:Top f d m j)(hm:0<j→m<f j):Top f d (f j) (j+1):=by
  refine ⟨fun z=>by omega,fun _=>⟨⟨j,by omega,rfl⟩,fun x hx=>?_⟩⟩
  by_cases z:x=j
  · rw [z];exact Int.le_refl _
  · have:=(h.2 (by omega)).2 x (by omega)
    have:=hm (by omega)
    omega
section
variable {prog:Program}{w:World}{A:Around}{R:Result→Shared→Prop}{I S:Addr}{fp wr:List Addr}{n:Nat}{P:Nat→Value→Prop}{St:Nat→Heap→Prop}
theorem mx_loop (W:Walks prog w A.in1 I fp wr n P St) {f:Nat→Int} (hP:∀ i v,P i v→∃ t,v=.int (f i) t) (hS:S∉fp) {d:Int} {kn:Str} {td:Tok}:∀ (k j:Nat) (s:Shared) (m:Int) (vs:Array Value) (c:Nat),j+k=n→St j s.heap→Top f d m j →
    (j=0→vs=#[])→(0<j→∃ t,vs=#[.int m t,.int m t])→s.heap.get? S=some { cls:=.type "list",data:=.seq vs c } →
    (∀ m t h' tk,Top f d m n→(∀ b o,b∉wr→b≠S→s.heap.get? b=some o→h'.get? b=some o)→R (.ok (.ret (.int m t))) { s with heap:=h',toks:=tk }) →
    codeAny (model prog w) A (.builtin "max.loop" ⟨[.ref I,.none,.ref S],[(kn,.int d td)]⟩) R s:=by
  have nw:S∉wr:=fun h=>hS (W.sub _ h)
  have nm:(toString "max"++toString ".loop":String)="max.loop":=by decide
  intro k
  induction k with
  | zero =>
    intro j s m vs c ek hst top h0 h1 ho r
    have ej:j=n:=by omega
    subst ej
    refine codeAny_builtin F.entry_max_loop ?_
    rw [Around.under_plainId F.plain_max_loop _]
    refine wpAny_bind (m:=seqItems? (.ref S)) (wpAny_seqItems ho rfl ?_)
    refine wpAny_bind (wpAny_tryCatch (W.done s _ _ hst fun h' tk hk=>?_))
    rcases Nat.eq_zero_or_pos j with z | z
    · cases h0 z
      refine wpAny_bind (wpAny_rule (wpAny_pure ?_))
      cases top.1 z
      exact r d td h' tk top fun b o hb _ e=>hk b o hb e
    · obtain ⟨t,rfl⟩:=h1 z
      refine wpAny_bind (m:=updateSeq S fun _=>#[]) (wpAny_updateSeq (hk S _ nw ho) rfl (wpAny_bind (wpAny_letGo (wpAny_pure ?_))))
      exact r m t _ tk top fun b o hb n e=>(Heap.get?_update_other _ _ (Ne.symm n)).trans (hk b o hb e)
  | succ k ih =>
    intro j s m vs c ek hst top h0 h1 ho r
    refine codeAny_builtin F.entry_max_loop ?_
    rw [Around.under_plainId F.plain_max_loop _]
    refine wpAny_bind (m:=seqItems? (.ref S)) (wpAny_seqItems ho rfl ?_)
    refine wpAny_bind (wpAny_tryCatch (W.item j s _ _ (by omega) hst fun v h' tk pv hst' hk=>?_))
    obtain ⟨tv,rfl⟩:=hP j v pv
    have ho':=hk S _ nw ho
    rcases Nat.eq_zero_or_pos j with z | z
    · cases h0 z
      refine wpAny_bind (m:=updateSeq S fun _=>#[.int (f j) tv,.int (f j) tv]) (wpAny_updateSeq ho' rfl ?_)
      rw [nm]
      refine wpAny_pure ⟨plainId_quiet F.plain_max_loop _,ih (j+1) _ (f j) _ _ (by omega) (W.frame _ _ _ hst' fun b hb o e=>?_) (top.new fun q=>by omega) (fun q=>by omega) (fun _=>⟨tv,rfl⟩) (Heap.get?_update_self _ ho' rfl) fun m' t' h'' tk' tp hk'=>?_⟩
      · exact (Heap.get?_update_other _ _ (fun h:S=b=>hS (by rw [h];exact hb))).trans e
      · exact r m' t' h'' tk' tp fun b o hb n e=>hk' b o hb n ((Heap.get?_update_other _ _ (Ne.symm n)).trans (hk b o hb e))
    · obtain ⟨t,rfl⟩:=h1 z
      have cm:=CmpOf.ints_gt (prog:=prog) (w:=w) (A:=A.in1) (P:=fun i v=>∃ t,v=.int (if i=0 then f j else m) t) (fun i=>if i=0 then f j else m) (fun _ _ h=>h)
      show wpAny _ A.in1 (tryCatch (holding [.int (f j) tv,.int (f j) tv] (richCompare .Gt (.int (f j) tv) (.int m t) >>= _)) _ >>= _) _ _ _
      refine wpAny_bind (wpAny_tryCatch (wpAny_holding (wpAny_bind (cm 0 1 (.int (f j) tv) (.int m t) _ _ _ ⟨tv,rfl⟩ ⟨t,rfl⟩ ?_))))
      refine wpAny_bind (wpAny_holding (wpAny_truthy_bool ?_))
      refine wpAny_bind (wpAny_letGo (wpAny_pure ?_))
      by_cases g:f j > m
      · have:decide ((if (0:Nat)=0 then f j else m) > if (1:Nat)=0 then f j else m)=true:=by simpa using g
        rw [if_pos this]
        refine wpAny_bind ?_
        refine wpAny_updateSeq ho' rfl (wpAny_bind (wpAny_letGo ?_))
        rw [nm]
        refine wpAny_pure ⟨plainId_quiet F.plain_max_loop _,ih (j+1) _ (f j) _ _ (by omega) (W.frame _ _ _ hst' fun b hb o e=>?_) (top.new fun q=>g) (fun q=>by omega) (fun _=>⟨tv,rfl⟩) (Heap.get?_update_self _ ho' rfl) fun m' t' h'' tk' tp hk'=>?_⟩
        · exact (Heap.get?_update_other _ _ (fun h:S=b=>hS (by rw [h];exact hb))).trans e
        · exact r m' t' h'' tk' tp fun b o hb n e=>hk' b o hb n ((Heap.get?_update_other _ _ (Ne.symm n)).trans (hk b o hb e))
      · have:decide ((if (0:Nat)=0 then f j else m) > if (1:Nat)=0 then f j else m)=false:=by simpa using g
        rw [if_neg (fun h=>Bool.noConfusion (this.symm.trans h))]
        refine wpAny_bind (wpAny_letGo ?_)
        rw [nm]
        refine wpAny_pure ⟨plainId_quiet F.plain_max_loop _,ih (j+1) _ m _ _ (by omega) hst' (top.more z (by omega)) (fun q=>by omega) (fun _=>⟨t,rfl⟩) ho' fun m' t' h'' tk' tp hk'=>?_⟩
        exact r m' t' h'' tk' tp fun b o hb n e=>hk' b o hb n (hk b o hb e)
end
theorem boot_dict:bootBuiltins "dict"=some (.type "dict"):=by decide +kernel
theorem mx_args (a v:Value):argsOk "max" ⟨[a],[(Str.ofString "default",v)]⟩:=by unfold argsOk;kernel_rfl
section
variable {prog:Program}{w:World}{A:Around}{E:Value→Shared→Prop}{s:Shared}
theorem call_maxD {x:Value}{d:Int}{td:Tok}{Q:Value→Shared→Prop}
    (h:wpAny (model prog w) A.in1 (pyIter x) (fun it s₂=>∃ I fp wr n P St f,it=.ref I∧Walks prog w A.in1 I fp wr n P St∧St 0 s₂.heap∧(∀ b∈fp,b<s₂.heap.objs.size)∧(∀ i v,P i v→∃ t,v=.int (f i) t) ∧
      ∀ m t h' tk,Top f d m n→(∀ b o,b∉wr→s₂.heap.get? b=some o→h'.get? b=some o)→Q (.int m t) { s₂ with heap:=h',toks:=tk }) E s) :
    wpAny (model prog w) A (call (.builtin "max") [x] [(Str.ofString "default",.int d td)]) Q E s:=by
  have nm:(toString "max"++toString ".loop":String)="max.loop":=by decide
  refine kmb_tree F.kind_max F.plain_max F.entry_max (mx_args _ _) ?_
  show wpAny _ A.in1 (Builtin.Builtins.bindParams "max" ["key","default"] 0 ⟨[],[(Str.ofString "default",.int d td)]⟩ >>= _) _ _ s
  refine wpAny_bind (wpAny_of_eq (show Builtin.Builtins.bindParams "max" ["key","default"] 0 ⟨[],[(Str.ofString "default",.int d td)]⟩=pure [none,some (.int d td)] from rfl) ?_)
  refine wpAny_bind (wpAny_pure ?_)
  refine wpAny_bind (wpAny_mono h (fun it s₂ h₂=>?_) fun _ _ e=>e)
  obtain ⟨I,fp,wr,n,P,St,f,rfl,W,hst,hfp,hP,hQ⟩:=h₂
  refine wpAny_bind (wpAny_newObj_type ?_)
  have hSf:s₂.heap.objs.size∉fp:=fun hm=>Nat.lt_irrefl _ (hfp _ hm)
  rw [nm]
  refine wpAny_pure ⟨plainId_quiet F.plain_max_loop _,mx_loop W hP hSf n 0 _ d _ _ (by omega) (W.frame _ _ _ hst fun b _ o e=>Heap.get?_push_of_some _ e) ⟨fun _=>rfl,fun q=>absurd q (Nat.lt_irrefl _)⟩ (fun _=>rfl) (fun q=>absurd q (Nat.lt_irrefl _)) (Heap.get?_push_size _ rfl) fun m t h' tk tp hk=>?_⟩
  exact hQ m t h' tk tp fun b o hbw e=>hk b o hbw (Nat.ne_of_lt (Heap.lt_size e)) (Heap.get?_push_of_some _ e)
theorem Top.list {ns:List Int} {d m:Int} (h:Top (fun i=>ns.getD i 0) d m ns.length):m=ns.max?.getD d:=by
  cases ns with
  | nil=>exact h.1 rfl
  | cons a r =>
    obtain ⟨⟨i,hi,e⟩,q⟩:=h.2 (Nat.succ_pos _)
    have:(a::r).max?=some m:=by
      refine List.max?_eq_some_iff.mpr ⟨?_,fun b hb=>?_⟩
      · rw [← e]
        show (a::r).getD i 0∈_
        rw [List.getD_eq_getElem?_getD,List.getElem?_eq_getElem hi]
        exact List.getElem_mem hi
      · obtain ⟨j,hj,rfl⟩:=List.mem_iff_getElem.mp hb
        have:(a::r).getD j 0≤m:=q j hj
        rw [List.getD_eq_getElem?_getD,List.getElem?_eq_getElem hj] at this
        exact this
    rw [this]
    rfl
end
section
variable {X:Cx}{x:Str}{p pos:Pos}{e:Expr}{es:List Expr}{kws:List Keyword}{ks:List Str}{t tk:TA}{id:String}{r:List V→List V→Hp→VK→Prop}
def CallRK (X:Cx) (f:Value) (ks:List Str) (r:List V→List V→Hp→VK→Prop):Prop :=
  ∀ (pins:List (Addr × Obj)) (s:Shared) (σ:St) (H:Hp) (xs zs:List V) (us ws:List Value) (Q:VK),Inv X pins σ H s→Vals xs us→Vals zs ws→r xs zs H Q →
    wpAny (model X.prog X.w) X.A (call f us (ks.zip ws)) (EP X pins σ Q) X.xe s
def tCBK (r:List V→List V→Hp→VK→Prop)(t tk:TA):TE:=fun σ H Q=>t σ H fun vs H1=>tk σ H1 fun zs H2=>r vs zs H2 Q
theorem pe_callBK (hc:CallRK X (.builtin id) ks r)(hg:Gl X x)(hm:X.mg x=none)(hv:bootBuiltins x=some (.builtin id))(ha:PA X (e::es) t)(hkw:PK X kws tk)
    (hks:(backToKw pos (keywordEach kws X.env)).filterMap (·.1)=ks:=by rfl) (hn:x≠"__name__":=by decide) (hdb:(x==("__debug__":Str))=false:=by decide)
    (he:backTo pos (starEach (e::es) X.env)=(false,eval e X.env)::backTo pos (starEach es X.env):=by rfl)
    (hpl:(backTo pos (starEach (e::es) X.env)).any (·.1)=false:=by rfl)
    (hall:(backToKw pos (keywordEach kws X.env)).all (·.1.isSome)=true:=by rfl)
    (hno:(backToKw pos (keywordEach kws X.env)).any (·.1.isNone)=false:=by rfl):PE X (.Call (.Name x p) (e::es) kws pos) (tCBK r t tk):=by
  intro pins s σ H Q I h
  refine wpAny_Call_Name_kw (ld_blt I hg hm hv ?_ hn hdb)
  refine callWith_kw (thn (ha pos pins s σ H _ I h) fun us s1 ⟨vs,H1,I1,r1,q1⟩=>?_) he hpl hall hno
  refine thn (hkw pos pins s1 σ H1 _ I1 q1) fun ws s2 ⟨zs,H2,I2,rz,q2⟩=>?_
  rw [hks]
  exact hc pins s2 σ H2 vs zs us ws Q I2 r1 rz q2
def rMaxD (K:PySem.W.Frag):List V→List V→Hp→VK→Prop:=fun xs zs H Q=>∃ (p:Addr) (ns:List Int) (d:Int),xs=[.ref p]∧zs=[.int d]∧SqL K H p (ns.map V.int)∧Q (.int (ns.max?.getD d)) H
theorem call_maxDK (K:PySem.W.Frag)(hK:X.K=K:=by rfl)(hc:X.calm=true:=by rfl):CallRK X (.builtin "max") [Str.ofString "default"] (rMaxD K):=by
  subst hK
  intro pins s σ H xs zs us ws Q I r rz h
  obtain ⟨p,ns,d,rfl,rfl,hS,q⟩:=h
  obtain ⟨u,rfl,ru⟩:=r.one
  cases (show u=Value.ref p from ru)
  obtain ⟨u,rfl,ru⟩:=rz.one
  obtain ⟨td,rfl⟩:∃ t,u=Value.int d t:=ru
  obtain ⟨its,vi,pl,hz⟩:=I.list hS
  have ne:p≠s.heap.objs.size:=by obtain ⟨o,e,_⟩:=pl.isList;exact Nat.ne_of_lt (Heap.lt_size e)
  have hl:its.length=ns.length:=by
    have:=vi.length
    rw [List.length_map] at this
    exact this.symm
  have hb:∀ (i:Nat) (v:Value),its.toArray[i]?=some v→∃ t,v=.int (ns.getD i 0) t:=fun i v e=>by
    have e2:its[i]?=some v:=by simpa using e
    have hi:i<ns.length:=by
      have:=(List.getElem?_eq_some_iff.mp e2).1
      omega
    obtain ⟨u,hu,ru⟩:=vi.get (i:=i) (x:=.int (ns.getD i 0)) (by rw [List.getElem?_map,List.getElem?_eq_getElem hi,List.getD_eq_getElem?_getD,List.getElem?_eq_getElem hi];rfl)
    rw [hu] at e2
    cases e2
    exact ru
  refine call_maxD (wpAny_pyIter_list pl.isList ?_)
  refine ⟨s.heap.objs.size,_,_,_,_,_,fun i=>ns.getD i 0,rfl,Walks.list (A:=X.A.in1) (show X.A.in1.handled=none from I.ok.hd hc) s.heap.objs.size p ne its.toArray,⟨⟨_,Heap.get?_push_size _ rfl,rfl,rfl⟩,pl.isList.push _⟩,fun b hb=>?_,hb,fun m t h' tk tp hk=>?_⟩
  · obtain ⟨o,e,_⟩:=pl.isList
    have lp:=Heap.lt_size e
    have:b=s.heap.objs.size∨b=p:=by simpa using hb
    show b<(s.heap.push _).objs.size
    rw [size_push']
    rcases this with rfl | rfl
    · exact Nat.lt_succ_self _
    · exact Nat.lt_succ_of_lt lp
  · rw [List.size_toArray,hl] at tp
    cases tp.list
    refine ⟨.int _,H,?_,⟨t,rfl⟩,q⟩
    exact I.kept (t':=tk) fun b o q2=>hk b o (by
      intro z
      have:b=s.heap.objs.size:=by simpa using z
      exact absurd (Heap.lt_size q2) (by rw [this];exact Nat.lt_irrefl _)) (Heap.get?_push_of_some _ q2)
end
end L2
namespace L2
open PySem PySem.Spec PyProof.Rows
structure MkN (K:PySem.W.Frag)(C:Addr):Prop where
  makes:PySem.W.makesIn K C=true
  init:PySem.W.findIn K (.ref C) "__init__"=some (some (.builtin "object.__init__"))
  kp:PySem.W.keepIn K (.ref C)=true
def tNew (C:Addr):TE:=fun _ H Q=>∀ x dx,H x=none→H dx=none→dx≠x→Q (.ref x) (upd (upd H dx (.own x)) x (.ins C dx []))
theorem tNew_ap {C:Addr}{σ:St}{H:Hp}{Q:VK}:tNew C σ H Q=∀ x dx,H x=none→H dx=none→dx≠x→Q (.ref x) (upd (upd H dx (.own x)) x (.ins C dx [])):=rfl
section
variable {X:Cx}{C:Addr}{x:Str}{p pos:Pos}
theorem run_new {pins:List (Addr × Obj)}{σ:St}{H:Hp}{s:Shared}{Q:VK}(M:MkN X.K C)(I:Inv X pins σ H s)
    (h:∀ x dx,H x=none→H dx=none→dx≠x→Q (.ref x) (upd (upd H dx (.own x)) x (.ins C dx []))) :
    wpAny (model X.prog X.w) X.A (call (.ref C) []) (EP X pins σ Q) X.xe s:=by
  have hq:=h (s.heap.objs.size+1) s.heap.objs.size (I.hok.fresh (Nat.le_succ _)) (I.hok.fresh (Nat.le_refl _)) (Nat.ne_of_lt (Nat.lt_succ_self _))
  have I2:=Inv.made (C:=C) I
  obtain ⟨hh,g,d,t,os⟩:=s
  dsimp only at I2 hq
  have Y:=PySem.W.makes_of (M:=model X.prog X.w) I.kIn M.makes
  refine wpAny_call (PySem.W.make_core Y (PySem.W.looks_findIn I.kIn M.init) (fun self=>PySem.W.Looks.of_pure (PySem.W.oi_bind self)) (.inr ⟨rfl,rfl⟩) ?_)
  have g1:((hh.push PySem.W.emptyDict).push (PySem.W.instObj C hh.objs.size)).get? (hh.objs.size+1)=some (PySem.W.instObj C hh.objs.size):=by
    have:=Heap.get?_push_size (hh.push PySem.W.emptyDict) (o:=PySem.W.instObj C hh.objs.size) rfl
    rw [Heap.size_push] at this
    exact this
  have t1:PySem.W.Looks (model X.prog X.w) ((hh.push PySem.W.emptyDict).push (PySem.W.instObj C hh.objs.size)) (typeOf (.ref (hh.objs.size+1))) (.ref C):=PySem.W.Looks.andThen (PySem.W.Looks.ld g1) PySem.W.Looks.now
  have t2:PySem.W.Looks (model X.prog X.w) ((hh.push PySem.W.emptyDict).push (PySem.W.instObj C hh.objs.size)) (isInstance (.ref (hh.objs.size+1)) (.type "object")) true:=PySem.W.Looks.andThen t1 (PySem.W.Looks.keeps (h:=hh) Y.top fun b o e=>Heap.get?_push_of_some (PySem.W.instObj C hh.objs.size) (Heap.get?_push_of_some PySem.W.emptyDict e))
  refine codeAny_call_builtin PySem.W.oi_plain PySem.W.entry_oi ?_
  have z:=@PySem.W.check_slot (model X.prog X.w) (X.A.under (.builtin "type.__call__" ⟨[.ref C],[]⟩)).in1
  have z:=@z (fun e s'=>PySem.W.InitBack (hh.objs.size+1) (fun r s₁=>match r with | .ok (.ret v)=>EP X pins σ Q v s₁ | .ok _=>False | .error e=>X.xe e s₁) (.error e) s') { heap:=(hh.push PySem.W.emptyDict).push (PySem.W.instObj C hh.objs.size),gens:=g,drawn:=d,toks:=t,os:=os } "object.__init__" "object" "__init__" (.ref (hh.objs.size+1)) [] []
  have z:=fun Q=>@z Q PySem.W.oi_kind PySem.W.oi_split t2 (PySem.W.oi_args _)
  refine z _ ?_
  rw [PySem.W.oi_run]
  exact wpAny_pure ⟨rfl,V.ref (hh.objs.size+1),_,I2,rfl,hq⟩
theorem pe_new (M:MkN X.K C)(hg:Gl X x)(hm:X.mg x=some (.ref C))(hdb:(x==("__debug__":Str))=false:=by decide):PE X (.Call (.Name x p) [] [] pos) (tNew C):=by
  intro pins s σ H Q I h
  refine wpAny_Call_Name_kw (ld_glob I hg hm ?_ hdb)
  exact PySem.W.callWith_K0 I.kIn M.kp (run_new M I h)
end
def New (H H':Hp):Hp:=fun a=>match H a with | none=>H' a | some _=>none
theorem New.of {H H':Hp}{a:Addr}{o:HO}(h:H a=none)(e:H' a=some o):New H H' a=some o:=by
  unfold New
  rw [h]
  exact e
theorem New.some {H H':Hp}{a:Addr}{o:HO}(h:New H H' a=some o):H a=none∧H' a=some o:=by
  unfold New at h
  split at h
  · rename_i e
    exact ⟨e,h⟩
  · cases h
theorem New.same {H H' H'':Hp}(s:Same H' H''):Same (New H H') (New H H''):=fun a o h=>by
  obtain ⟨h1,h2⟩:=New.some h
  exact New.of h1 (s _ _ h2)
theorem New.sub {H H':Hp}:Same (New H H') H':=fun a o h=>(New.some h).2
section
variable {K:PySem.W.Frag}{a:Addr}{xs:List V}{m:Nat}{caps:List Nat}{tt:TT}{te:TE}{σ:St}{H1:Hp}{Q:VK}
theorem compT (p:Nat→Bool)(hS:SqL K H1 a xs)(hn:xs.length≤1000000)
    (ht:∀ i x H2 (R:Bool→Hp→Prop),xs[i]?=some x→Same H1 H2→(∀ H3,Same H2 H3→R (p i) H3)→tt ((capSt m caps σ).set 0 (some x)) H2 R)
    (he:∀ x H2 (R:VK),R x H2→te ((capSt m caps σ).set 0 (some x)) H2 R)
    (hq:∀ D H2,Same H1 H2→H2 D=some (.lst (((List.range xs.length).filter p).map fun i=>xs.getD i .non))→Q (.ref D) H2):CompJ (Itl K a) m caps (gName 0) tt te σ H1 Q:=by
  refine compG (n:=xs.length) (fun D i ys H2=>i≤xs.length∧Same H1 H2∧H2 D=some (.lst ys)∧ys=((List.range i).filter p).map fun i=>xs.getD i .non) (fun D hD=>⟨Nat.zero_le _,Same.new hD,upd_same,rfl⟩) (fun D i ys H2 h=>h.1)
    (fun D ys H2 hD h=>⟨xs,h.2.1.seq hS,Nat.le_refl _⟩) (fun D i ys H2 hD hi h=>⟨xs,_,h.2.1.seq hS,List.getElem?_eq_getElem hi⟩) ?_ (fun D ys H2 hD h=>hq D H2 h.2.1 (h.2.2.2 ▸ h.2.2.1))
  rintro D i ys H2 x H3 hD hi ⟨_,s2,h2,rfl⟩ ⟨rfl,y⟩
  have hx:=y xs (s2.seq hS)
  rw [gName_ap]
  refine ht i x H3 _ hx s2 fun H4 s4=>?_
  have ll:(((List.range i).filter p).map fun i=>xs.getD i .non).length≤i:=by
    rw [List.length_map]
    exact Nat.le_trans (List.length_filter_le _ _) (by rw [List.length_range];exact Nat.le_refl _)
  have gx:xs.getD i .non=x:=by rw [List.getD_eq_getElem?_getD,hx];rfl
  split
  · rename_i e
    refine he _ _ _ (compYes hn hi ll (s4 _ _ h2) ⟨hi,(s2.trans s4).put hD,upd_same,?_⟩)
    rw [List.range_succ,List.filter_append,List.map_append]
    simp [e,hx]
  · rename_i e
    refine compNo (ys:=((List.range i).filter p).map fun i=>xs.getD i .non) hi ⟨hi,s2.trans s4,s4 _ _ h2,?_⟩
    rw [List.range_succ,List.filter_append,List.map_append]
    simp [e]
theorem compA (Rl:Nat→V→Hp→Prop)(mono:∀ i y H H',Same H H'→Rl i y H→Rl i y H')(hS:SqL K H1 a xs)(hn:xs.length≤1000000)
    (he:∀ i x H2 (R:VK),xs[i]?=some x→Same H1 H2→(∀ y H3,Same H2 H3→Rl i y (New H2 H3)→R y H3)→te ((capSt m caps σ).set 0 (some x)) H2 R)
    (hq:∀ D ys H2,H1 D=none→Same H1 H2→H2 D=some (.lst ys)→ys.length=xs.length→(∀ j y,ys[j]?=some y→Rl j y (del (New H1 H2) D))→Q (.ref D) H2):CompJ (Itl K a) m caps (gName 0) tNoTest te σ H1 Q:=by
  refine compG (n:=xs.length) (fun D i ys H2=>i≤xs.length∧Same H1 H2∧H2 D=some (.lst ys)∧ys.length=i∧∀ j y,ys[j]?=some y→Rl j y (del (New H1 H2) D)) (fun D hD=>⟨Nat.zero_le _,Same.new hD,upd_same,rfl,fun j y h=>by cases h⟩) (fun D i ys H2 h=>h.1)
    (fun D ys H2 hD h=>⟨xs,h.2.1.seq hS,Nat.le_refl _⟩) (fun D i ys H2 hD hi h=>⟨xs,_,h.2.1.seq hS,List.getElem?_eq_getElem hi⟩) ?_ (fun D ys H2 hD h=>hq D ys H2 hD h.2.1 h.2.2.1 h.2.2.2.1 h.2.2.2.2)
  rintro D i ys H2 x H3 hD hi ⟨_,s2,h2,rfl,h3⟩ ⟨rfl,y⟩
  have hx:=y xs (s2.seq hS)
  rw [gName_ap,tNoTest_ap]
  rw [if_pos rfl]
  refine he _ x H3 _ hx s2 fun z H4 s4 rz=>compYes hn hi (Nat.le_refl _) (s4 _ _ h2) ⟨hi,(s2.trans s4).put hD,upd_same,by rw [List.length_append];rfl,fun j y hj=>?_⟩
  by_cases hl:j<ys.length
  · rw [List.getElem?_append_left hl] at hj
    refine mono _ _ _ _ (fun b o hb=>?_) (h3 j y hj)
    obtain ⟨n1,e1⟩:=del_some hb
    obtain ⟨e1,e2⟩:=New.some e1
    rw [del_ne n1]
    refine New.of e1 ?_
    rw [upd_ne n1]
    exact s4 _ _ e2
  · rw [List.getElem?_append_right (by omega)] at hj
    have e0:j-ys.length=0:=by
      have:=(List.getElem?_eq_some_iff.mp hj).1
      simp at this
      omega
    rw [e0] at hj
    cases hj
    have e1:j=ys.length:=by omega
    subst e1
    refine mono _ _ _ _ (fun b o hb=>?_) rz
    obtain ⟨e1,e2⟩:=New.some hb
    have n1:b≠D:=fun z=>by rw [z,h2] at e1;cases e1
    rw [del_ne n1]
    refine New.of ?_ ?_
    · cases e:H1 b with
      | none=>rfl
      | some o=>rw [s2 _ _ e] at e1;cases e1
    · rw [upd_ne n1]
      exact e2
end
end L2
namespace ZL
open PySem
abbrev ZipH (h:Heap)(z TI TO T:Addr)(b:Bool):Prop :=
  h.get? z=some { cls:=.type "zip",dict:=none,data:=.fields #[rawInt T,.bool b,.bool false,.ref TI,.ref TO],slots:=#[] }
section
variable {prog:Program}{w:World}{A:Around}{E:Value→Shared→Prop}{s:Shared}
structure ZI (z TI TO i1 i2 l1 l2:Addr)(xs ys:Array Value)(m i:Nat)(Ts:List Addr)(h:Heap):Prop where
  zz:(i=0∧IsZip h z TI TO .none∧∃ a b,IsPair h TO a b)∨(∃ T0 b,Ts[0]?=some T0∧ZipH h z TI TO T0 b)
  ti:IsPair h TI (.ref i1) (.ref i2)
  it1:h.IsListIter i1 l1 i
  it2:h.IsListIter i2 l2 i
  li1:h.IsList l1 xs
  li2:h.IsList l2 ys
  len:Ts.length=i
  nd:Ts.Nodup
  new:∀ T∈Ts,m≤T
  tup:∀ (j:Nat) (T:Addr),Ts[j]?=some T→∃ x y,xs[j]?=some x∧ys[j]?=some y∧IsPair h T x y
end
end ZL
namespace L2
open PySem PySem.Spec PyProof.Rows
section
variable {X:Cx}{pins:List (Addr × Obj)}{σ:St}{H:Hp}{s:Shared}{h':Heap}
end
def lay (L:List (Addr × HO))(H:Hp):Hp:=fun b=>match L.lookup b with
  | some o=>some o
  | none=>H b
theorem lay_cons {L:List (Addr × HO)}{H:Hp}{b:Addr}{o:HO}:lay ((b,o)::L) H b=some o:=by
  unfold lay
  rw [List.lookup_cons,BEq.rfl]
section
variable {X:Cx}{a b:Expr}{ta:TA}{p p' pos pos':Pos}
end
end L2
namespace L2
open PySem PySem.Spec PyProof.Rows
section
variable {X:Cx}
theorem boot_sumB:bootBuiltins "sum"=some (.builtin "sum"):=by decide +kernel
def rSum (K:PySem.W.Frag):List V→Hp→VK→Prop:=fun xs H Q=>∃ (p:Addr) (ns:List Int),xs=[.ref p]∧SqL K H p (ns.map V.int)∧Q (.int ns.sum) H
theorem rSum_ap {K:PySem.W.Frag}{xs:List V}{H:Hp}{Q:VK}:rSum K xs H Q=∃ (p:Addr) (ns:List Int),xs=[.ref p]∧SqL K H p (ns.map V.int)∧Q (.int ns.sum) H:=rfl
theorem sum_take (ns:List Int):∀ j,j≤ns.length→preSum (fun i=>ns.getD i 0) j=(ns.take j).sum
  | 0,_=>rfl
  | j+1,h=>by
    have hj:j<ns.length:=by omega
    show preSum _ j+ns.getD j 0=_
    rw [sum_take ns j (by omega),List.take_succ,List.getElem?_eq_getElem hj,List.sum_append,List.getD_eq_getElem?_getD,List.getElem?_eq_getElem hj]
    simp
theorem call_sumK (K:PySem.W.Frag)(hK:X.K=K:=by rfl)(hc:X.calm=true:=by rfl):CallR X (.builtin "sum") (rSum K):=by
  subst hK
  intro pins s σ H xs us Q I r h
  obtain ⟨p,ns,rfl,hS,q⟩:=h
  obtain ⟨u,rfl,ru⟩:=r.one
  cases (show u=Value.ref p from ru)
  obtain ⟨its,vi,pl,hz⟩:=I.list hS
  have ne:p≠s.heap.objs.size:=by obtain ⟨o,e,_⟩:=pl.isList;exact Nat.ne_of_lt (Heap.lt_size e)
  have hl:its.length=ns.length:=by
    have:=vi.length
    rw [List.length_map] at this
    exact this.symm
  have hb:∀ (i:Nat) (v:Value),its.toArray[i]?=some v→∃ t,v=.int (ns.getD i 0) t:=fun i v e=>by
    have e2:its[i]?=some v:=by simpa using e
    have hi:i<ns.length:=by
      have:=(List.getElem?_eq_some_iff.mp e2).1
      omega
    obtain ⟨u,hu,ru⟩:=vi.get (i:=i) (x:=.int (ns.getD i 0)) (by rw [List.getElem?_map,List.getElem?_eq_getElem hi,List.getD_eq_getElem?_getD,List.getElem?_eq_getElem hi];rfl)
    rw [hu] at e2
    cases e2
    exact ru
  refine call_sum_walkG (wpAny_pyIter_list pl.isList ?_)
  refine ⟨s.heap.objs.size,_,_,_,_,_,fun i=>ns.getD i 0,rfl,Walks.list (A:=X.A.in1) (show X.A.in1.handled=none from I.ok.hd hc) s.heap.objs.size p ne its.toArray,⟨⟨_,Heap.get?_push_size _ rfl,rfl,rfl⟩,pl.isList.push _⟩,fun b hb=>?_,hb,fun h' tk t' hk=>?_⟩
  · obtain ⟨o,e,_⟩:=pl.isList
    have lp:=Heap.lt_size e
    have:b=s.heap.objs.size∨b=p:=by simpa using hb
    show b<(s.heap.push _).objs.size
    rw [size_push']
    rcases this with rfl | rfl
    · exact Nat.lt_succ_self _
    · exact Nat.lt_succ_of_lt lp
  · have e:preSum (fun i=>ns.getD i 0) its.toArray.size=ns.sum:=by
      rw [List.size_toArray,hl,sum_take ns _ (Nat.le_refl _),List.take_length]
    rw [e]
    refine ⟨.int ns.sum,H,?_,⟨t',rfl⟩,q⟩
    exact I.kept (t':=tk) fun b o q2=>hk b o (by
      intro z
      have:b=s.heap.objs.size:=by simpa using z
      exact absurd (Heap.lt_size q2) (by rw [this];exact Nat.lt_irrefl _)) (Heap.get?_push_of_some _ q2)
end
end L2
namespace L2
open PySem PySem.Spec PyProof.Rows
section
variable {X:Cx}{pins:List (Addr × Obj)}{σ:St}{H:Hp}{s:Shared}{p:Addr}{kvs:List (Key × V)}{o:Obj}
theorem Inv.swap {u u':HO}(I:Inv X pins σ H s)(hp:H p=some u)(ok:ObjOk X.prog X.w H s.heap p u')(n1:∀ xs,u≠.tup xs)(n2:∀ x,u≠.own x)(n3:∀ ps,u≠.tbl ps)(nf:∀ o v,X.H₀ p≠some (.frz o v)):Inv X pins σ (upd H p u') s:=by
  have np:∀ b o,H b=some o→o≠u→upd H p u' b=some o:=fun b o e n=>by
    rw [upd_ne fun z=>by rw [z,hp] at e;cases e;exact n rfl]
    exact e
  have nn:∀ b,H b=none→upd H p u' b=none:=fun b e=>by
    rw [upd_ne fun z=>by rw [z,hp] at e;cases e]
    exact e
  refine ⟨I.ok,I.os,I.bare,⟨I.base.keep,I.base.slot,fun b o e n x=>nn b (I.base.free b o e n x),I.base.there,fun b ys e=>np b _ (I.base.tups b ys e) (n1 _).symm,fun b o v e=>?_,fun b ps e=>?_⟩,I.loc,I.cell,nn _ I.free,fun x c h=>nn _ (I.freeC x c h),fun q hq=>?_,fun a o e=>?_,I.len⟩
  · have z:=I.base.frzs b o v e
    rw [upd_ne fun z=>by rw [z] at e;exact nf _ _ e]
    exact z
  · obtain ⟨more,e⟩:=I.base.tbls b ps e
    exact ⟨more,np b _ e (n3 _).symm⟩
  · obtain ⟨e1,e2,r⟩:=I.pin q hq
    exact ⟨e1,nn _ e2,r⟩
  · by_cases z:a=p
    · subst z
      rw [upd_same] at e
      cases e
      exact ok.stay (fun _ _ _ q=>q) (fun b q=>np b _ q (n2 _).symm) fun b ys q=>np b _ q (n1 _).symm
    · rw [upd_ne z] at e
      exact (I.hok a o e).stay (fun _ _ _ q=>q) (fun b q=>np b _ q (n2 _).symm) fun b ys q=>np b _ q (n1 _).symm
theorem Inv.nofrz (I:Inv X pins σ H s)(hp:H p=some (.dK kvs)):∀ o v,X.H₀ p≠some (.frz o v):=fun o v e=>by
  have:=I.base.frzs p o v e
  rw [hp] at this
  cases this
theorem Inv.freeze (I:Inv X pins σ H s)(hp:H p=some (.dK kvs))(ho:s.heap.get? p=some o):Inv X pins σ (upd H p (.frz o (.dK kvs))) s :=
  I.swap hp ⟨ho,I.hok _ _ hp⟩ (fun _ z=>by cases z) (fun _ z=>by cases z) (fun _ z=>by cases z) (I.nofrz hp)
theorem Inv.thaw (I:Inv X pins σ H s)(hp:H p=some (.frz o (.dK kvs)))(nf:∀ o v,X.H₀ p≠some (.frz o v)):Inv X pins σ (upd H p (.dK kvs)) s :=
  I.swap hp (I.hok _ _ hp).2 (fun _ z=>by cases z) (fun _ z=>by cases z) (fun _ z=>by cases z) nf
end
def tThaw (te:TE):TE:=fun σ H Q=>∃ p kvs,H p=some (.dK kvs)∧te σ H fun v H'=>∃ o,H' p=some (.frz o (.dK kvs))∧Q v (upd H' p (.dK kvs))
theorem tThaw_ap {te:TE}{σ:St}{H:Hp}{Q:VK}:tThaw te σ H Q=∃ p kvs,H p=some (.dK kvs)∧te σ H fun v H'=>∃ o,H' p=some (.frz o (.dK kvs))∧Q v (upd H' p (.dK kvs)):=rfl
theorem pe_thaw {X:Cx}{e:Expr}{te:TE}(h:PE X e te):PE X e (tThaw te):=by
  intro pins s σ H Q I q
  obtain ⟨p,kvs,hp,q⟩:=q
  have nf:=I.nofrz hp
  exact thn (h pins s σ H _ I q) fun u s1 ⟨v,H1,I1,r1,o,h1,q1⟩=>⟨v,_,I1.thaw h1 nf,r1,q1⟩
def sThaw (t:TS):TS:=fun D σ H=>∃ p kvs,H p=some (.dK kvs)∧t { nx:=fun σ' H'=>∃ o,H' p=some (.frz o (.dK kvs))∧D.nx σ' (upd H' p (.dK kvs)),rt:=fun v H'=>∃ o,H' p=some (.frz o (.dK kvs))∧D.rt v (upd H' p (.dK kvs)),bk:=fun σ' H'=>∃ o,H' p=some (.frz o (.dK kvs))∧D.bk σ' (upd H' p (.dK kvs)),ct:=fun σ' H'=>∃ o,H' p=some (.frz o (.dK kvs))∧D.ct σ' (upd H' p (.dK kvs)) } σ H
theorem ps_thaw {X:Cx}{st:Stmt}{t:TS}(h:PS X st t):PS X st (sThaw t):=by
  intro pins s σ H D I q
  obtain ⟨p,kvs,hp,q⟩:=q
  have nf:=I.nofrz hp
  refine thn (h pins s σ H _ I q) fun f s1 hq=>?_
  cases f with
  | next =>
    obtain ⟨σ',H1,I1,o,h1,q1⟩:=hq
    exact ⟨σ',_,I1.thaw h1 nf,q1⟩
  | brk =>
    obtain ⟨σ',H1,I1,o,h1,q1⟩:=hq
    exact ⟨σ',_,I1.thaw h1 nf,q1⟩
  | cont =>
    obtain ⟨σ',H1,I1,o,h1,q1⟩:=hq
    exact ⟨σ',_,I1.thaw h1 nf,q1⟩
  | ret u =>
    obtain ⟨v,σ',H1,I1,r1,o,h1,q1⟩:=hq
    exact ⟨v,σ',_,I1.thaw h1 nf,r1,q1⟩
def Itd (a:Addr)(o:Obj)(kvs:List (Key × V)):It :=
  ⟨fun i H=>H a=some (.frz o (.dK kvs))∧i<kvs.length,fun i H x H'=>H'=H∧∃ kv,kvs[i]?=some kv∧x=kV kv.1,fun i H=>H a=some (.frz o (.dK kvs))∧kvs.length≤i⟩
theorem key_rel {k:Key}{u:Value}(h:keyIs k u=true):RelV (kV k) u:=by
  rcases keyIs_shape h with ⟨i,t,rfl,rfl⟩ | ⟨x,t,rfl,rfl⟩
  · exact ⟨t,rfl⟩
  · exact ⟨t,rfl⟩
theorem paired_at {κ:Type}:∀ {kvs:List (κ × V)} {vs:List (κ × Value)} {i:Nat} {k:κ} {v:V},KV kvs vs→kvs[i]?=some (k,v)→∃ v',vs[i]?=some (k,v')
  | _,_,0,_,_,.cons q _,h=>by
    cases h
    obtain ⟨q1,_⟩:=q
    exact ⟨_,congrArg some (Prod.ext q1.symm rfl)⟩
  | _,_,i+1,_,_,.cons _ r,h=>paired_at (i:=i) r h
theorem turn_dict {P:Program}{w:World}{K:PySem.W.Frag}{tg:Expr}{o:Obj}{es:Array DictEntry}{ep:Nat}{kvs:List (Key × V)}(a it:Addr)(ho:o.data=.dict es ep):Turn P w K tg (Itd a o kvs) [it] it (fun i h=>h.IsKeyIter it a i kvs.length ep) where
  mem:=by simp
  obj:=fun i h st b hb=>by
    have e:b=it:=by simpa using hb
    subst e
    obtain ⟨o,e,c,d⟩:=st
    exact ⟨o,e,fun v z=>by rw [d] at z;cases z⟩
  keep:=fun i h h' st k=>st.at fun o e=>k it (by simp) o e
  item:=by
    intro X hP hw hK hc i pins s σ H E I hf st hg
    subst hP hw hK
    obtain ⟨hq,hi⟩:=hg
    obtain ⟨e1,_,_,vs,rel,o',es',ep',e2,ex,dt,ko,pr,nd⟩:=(show ObjOk X.prog X.w H s.heap a (.frz o (.dK kvs)) from I.hok _ _ hq)
    cases e1.symm.trans e2
    cases ho.symm.trans dt
    have gk:kvs[i]?=some (kvs[i].1,kvs[i].2):=List.getElem?_eq_getElem hi
    obtain ⟨v',gv⟩:=paired_at rel gk
    have ll:kvs.length=vs.length:=Paired.length rel
    rw [ll] at st
    obtain ⟨f0,f1,f2,f3,f4,f5⟩:=hf it (by simp)
    refine wpAny_pyNext_dict_item (knd:=mixKind X.prog X.w) st ⟨o,es,e1,ex,dt,ko,pr,nd⟩ gv fun key h' kis st' sb=>?_
    have I1:Inv X pins σ H { s with heap:=h' }:=I.turned (t':=s.toks) (fun b o hb e=>(sb.2 b hb).trans e) f0 f1 f3 f4 f5
    rw [← ll] at st'
    obtain ⟨oi,ei,ci,di⟩:=id st'
    exact ⟨key,rfl,go_of (s:={ s with heap:=h' }) ei ci di (by decide) ⟨kV kvs[i].1,H,I1,key_rel kis,⟨rfl,_,gk,rfl⟩,st',fun b hb=>(hf b hb).1⟩⟩
  done:=by
    intro X hP hw hK hc i pins s σ H E I hf st hg
    subst hP hw hK
    obtain ⟨hq,hi⟩:=hg
    obtain ⟨e1,_,_,vs,rel,o',es',ep',e2,ex,dt,ko,pr,nd⟩:=(show ObjOk X.prog X.w H s.heap a (.frz o (.dK kvs)) from I.hok _ _ hq)
    cases e1.symm.trans e2
    cases ho.symm.trans dt
    have ll:kvs.length=vs.length:=Paired.length rel
    rw [ll] at st
    obtain ⟨f0,f1,f2,f3,f4,f5⟩:=hf it (by simp)
    exact wpAny_pyNext_dict_end (knd:=mixKind X.prog X.w) (I.ok.hd hc) st ⟨o,es,e1,ex,dt,ko,pr,nd⟩ (List.getElem?_eq_none (by omega)) fun h' eb=>⟨rfl,I.turned (t':=s.toks) (fun b o hb e=>eb b o hb e) f0 f1 f3 f4 f5⟩
  self:=fun _ _ _ _ _ st h=>wpAny_pyIter_keyiter st h
def iDict (tl:TE):TI:=fun σ H R=>tl σ H fun x H1=>∃ a kvs,x=.ref a∧H1 a=some (.dK kvs)∧∀ o,R (Itd a o kvs) (upd H1 a (.frz o (.dK kvs)))
theorem iDict_ap {tl:TE}{σ:St}{H:Hp}{R:It→Hp→Prop}:iDict tl σ H R=tl σ H fun x H1=>∃ a kvs,x=.ref a∧H1 a=some (.dK kvs)∧∀ o,R (Itd a o kvs) (upd H1 a (.frz o (.dK kvs))):=rfl
theorem pi_dict {X:Cx}{tg l:Expr}{tl:TE}(hl:PE X l tl):PI X tg l (iDict tl):=by
  intro pins s σ H R I h
  refine thn (hl pins s σ H _ I h) fun v s1 ⟨x,H1,I1,r1,q1⟩=>?_
  obtain ⟨a,kvs,e,hq,q⟩:=q1
  subst e
  cases r1
  obtain ⟨_,hs,vs,rel,o,es,ep,e2,ex,dt,ko,pr,nd⟩:=(show ObjOk X.prog X.w H1 s1.heap a (.dK kvs) from I1.hok _ _ hq)
  have ll:kvs.length=vs.length:=Paired.length rel
  refine wpAny_pyIter_dict (knd:=mixKind X.prog X.w) hs ⟨o,es,e2,ex,dt,ko,pr,nd⟩ ?_
  have I2:=I1.freeze hq e2
  have hn:upd H1 a (.frz o (.dK kvs)) s1.heap.objs.size=none:=I2.hok.fresh (Nat.le_refl _)
  refine ⟨s1.heap.objs.size,[s1.heap.objs.size],_,_,_,rfl,I2.kept (t':=s1.toks) fun b o e=>Heap.get?_push_of_some _ e,turn_dict a _ dt,⟨_,Heap.get?_push_size _ rfl,rfl,?_⟩,fun b hb=>?_,q o⟩
  · rw [ll]
    rfl
  have e:b=s1.heap.objs.size:=by simpa using hb
  subst e
  exact I2.fpOk (Nat.le_refl _) hn
end L2
namespace L2
open PySem PySem.Spec PyProof.Rows
def rMinL (K:PySem.W.Frag):List V→Hp→VK→Prop:=fun xs H Q=>∃ (p:Addr) (ns:List Int),xs=[.ref p]∧SqL K H p (ns.map V.int)∧ns≠[]∧∀ m∈ns,(∀ y∈ns,m≤y)→Q (.int m) H
theorem rMinL_ap {K:PySem.W.Frag}{xs:List V}{H:Hp}{Q:VK}:rMinL K xs H Q=∃ (p:Addr) (ns:List Int),xs=[.ref p]∧SqL K H p (ns.map V.int)∧ns≠[]∧∀ m∈ns,(∀ y∈ns,m≤y)→Q (.int m) H:=rfl
theorem call_minL {X:Cx}(K:PySem.W.Frag)(hc:X.calm=true)(hK:X.K=K:=by rfl):CallR X (.builtin "min") (rMinL K):=by
  subst hK
  intro pins s σ H xs us Q I r h
  obtain ⟨p,ns,rfl,hS,hne,q⟩:=h
  obtain ⟨u,rfl,ru⟩:=r.one
  cases (show u=Value.ref p from ru)
  obtain ⟨its,vi,pl,hz⟩:=I.list hS
  have hi:=intsAre_of vi
  have li:its.length=ns.length:=by rw [← vi.length,List.length_map]
  have l0:0<ns.length:=List.length_pos_iff.mpr hne
  have lp:p<s.heap.objs.size:=by
    obtain ⟨o,e,_⟩:=pl.isList
    exact Heap.lt_size e
  have W:=Walks.list (prog:=X.prog) (w:=X.w) (A:=X.A.in1) (show X.A.in1.handled=none from I.ok.hd hc) s.heap.objs.size p (Nat.ne_of_lt lp) its.toArray
  refine call_min_walk (wpAny_pyIter_list pl.isList ⟨_,_,_,_,_,_,_,rfl,W,⟨⟨_,Heap.get?_push_size _ rfl,rfl,rfl⟩,pl.isList.push _⟩,fun b hb=>?_,by simpa [li] using l0,CmpOf.ints_lt (fun i=>ns.getD i 0) (fun i v e=>IntsAre.int_at hi i v (by simpa using e)),fun v g tk hP hk=>?_⟩)
  · rw [ZT.size_push]
    rcases List.mem_cons.mp hb with z | z
    · rw [z];exact Nat.lt_succ_self _
    · rw [List.mem_singleton.mp z];exact Nat.lt_succ_of_lt lp
  · obtain ⟨b1,b2⟩:=argBest_lt (fun i=>ns.getD i 0) (its.toArray.size-1)
    generalize argBest (fun i j=>decide (ns.getD i 0<ns.getD j 0)) (its.toArray.size-1)=m at hP b1 b2
    have sz:its.toArray.size=ns.length:=by simpa using li
    obtain ⟨t,rfl⟩:=IntsAre.int_at hi m v (by simpa using hP)
    have lm:m<ns.length:=by omega
    refine ⟨.int (ns.getD m 0),H,I.kept fun b o e=>hk b o (fun z=>?_) (Heap.get?_push_of_some _ e),⟨_,rfl⟩,q _ ?_ fun y hy=>?_⟩
    · rw [List.mem_singleton.mp z] at e
      exact absurd (Heap.lt_size e) (Nat.lt_irrefl _)
    · rw [List.getD_eq_getElem?_getD,List.getElem?_eq_getElem lm]
      exact List.getElem_mem lm
    · obtain ⟨k,hk,rfl⟩:=List.mem_iff_getElem.mp hy
      have:=b2 k (by omega)
      rw [List.getD_eq_getElem?_getD (i:=k),List.getElem?_eq_getElem hk] at this
      exact this
end L2
namespace L2
open PySem PySem.Spec PyProof.Rows
section
variable {P:Program}{w:World}{l b p:Addr}{us vs:Array Value}{n m:Nat}{d1 d2:Option Addr}{z1 z2:Array (Option Value)}{s:Shared}{A:Around}{R:Result→Shared→Prop}
open MeetsSeq MeetsSeq2 MeetsSeq3 in
def EqW (P:Program)(w:World)(A:Around)(s:Shared)(u v:Value):Prop:=∀ (E:Value→Shared→Prop) (Q:Bool→Shared→Prop),Q true s→wpAny (model P w) A (eqBool u v) Q E s
abbrev FinW (P:Program)(w:World)(A:Around)(R:Result→Shared→Prop):Fin→Shared→Prop:=fun x s'=>match x with | .done f=>R (.ok f) s' | .again q=>q.quiet=true∧codeAny (model P w) A q R s'
abbrev LsAt (s:Shared)(l:Addr)(us:Array Value)(n:Nat)(d1:Option Addr)(z1:Array (Option Value)):Prop:=s.heap.get? l=some { cls:=.type "list",dict:=d1,data:=.seq us n,slots:=z1 }
abbrev TpAt (s:Shared)(l:Addr)(us:Array Value)(n:Nat)(d1:Option Addr)(z1:Array (Option Value)):Prop:=s.heap.get? l=some { cls:=.type "tuple",dict:=d1,data:=.seq us n,slots:=z1 }
open MeetsSeq MeetsSeq2 MeetsSeq3 AutoSeq1 in
theorem loopW (hs:us.size=vs.size){c:Int}{t:Bool}(hc:(c=2∧t=true)∨(c=3∧t=false)):∀ (k i:Nat),us.size-i=k→∀ {s:Shared},LsAt s l us n d1 z1→LsAt s b vs m d2 z2→(∀ (j:Nat) (h1:j<us.size) (h2:j<vs.size),EqW P w A.in1 s us[j] vs[j])→R (.ok (.ret (.bool t))) s →
    wpAny (model P w) A.in1 (Builtin.«list.__eq__.loop» ⟨[.ref l,.ref b,rawInt i,rawInt c],[]⟩) (FinW P w A R) (fun e s'=>R (.error e) s') s:=by
  intro k
  induction k with
  | zero =>
    rintro i hk ⟨hp,g,d,tk,oz⟩ hL hB he h
    have q1:us[((i:Nat):Int).toNat]?=none:=by simp;omega
    have q2:vs[((i:Nat):Int).toNat]?=none:=by simp;omega
    rcases hc with ⟨rfl,rfl⟩ | ⟨rfl,rfl⟩
    · wp_walk using wpAny_loadPart' hL,wpAny_loadPart' hB
      rw [q1,q2]
      wp_walk using wpAny_loadPart' hL,wpAny_loadPart' hB
      show R (.ok (.ret (.bool (us.size==vs.size)))) _
      rw [hs]
      simpa using h
    · wp_walk using wpAny_loadPart' hL,wpAny_loadPart' hB
      rw [q1,q2]
      wp_walk using wpAny_loadPart' hL,wpAny_loadPart' hB
      show R (.ok (.ret (.bool (us.size != vs.size)))) _
      rw [hs]
      simpa using h
  | succ k ih =>
    rintro i hk ⟨hp,g,d,tk,oz⟩ hL hB he h
    have l1:i<us.size:=by omega
    have l2:i<vs.size:=by omega
    have q1:us[((i:Nat):Int).toNat]?=some us[i]:=by simp [l1]
    have q2:vs[((i:Nat):Int).toNat]?=some vs[i]:=by simp [l2]
    have nx:((i:Int)+1)=((i+1:Nat):Int):=by push_cast;rfl
    have hc':=hc
    rcases hc with ⟨rfl,rfl⟩ | ⟨rfl,rfl⟩ <;>
    · wp_walk using wpAny_loadPart' hL,wpAny_loadPart' hB
      rw [q1,q2]
      refine wpAny_bind (he i l1 l2 _ _ ?_)
      wp_walk
      rw [nx]
      refine ⟨plainId_quiet plain_eq_loop _,codeAny_builtin entry_eq_loop ?_⟩
      rw [Around.under_plainId plain_eq_loop]
      exact ih (i+1) (by omega) hL hB he h
open MeetsSeq MeetsSeq2 MeetsSeq3 AutoSeq1 in
theorem lists_eqW (hs:us.size=vs.size)(hL:LsAt s l us n d1 z1)(hB:LsAt s b vs m d2 z2)(he:∀ (j:Nat) (h1:j<us.size) (h2:j<vs.size),EqW P w A.in1 s us[j] vs[j])(h:R (.ok (.ret (.bool true))) s) :
    wpAny (model P w) A.in1 (Builtin.«list.__eq__» ⟨[.ref l,.ref b],[]⟩) (FinW P w A R) (fun e s'=>R (.error e) s') s:=by
  obtain ⟨hp,g,d,tk,oz⟩:=s
  have fL:=AutoSeq1.sub_list_list
  have hne:¬ (us.size != vs.size)=true:=by simp [hs]
  wp_walk using wpAny_loadPart' hL,wpAny_loadPart' hB
  refine ⟨plainId_quiet plain_eq_loop _,codeAny_builtin entry_eq_loop ?_⟩
  rw [Around.under_plainId plain_eq_loop]
  exact loopW hs (.inl ⟨rfl,rfl⟩) _ 0 rfl hL hB he h
open MeetsSeq MeetsSeq2 MeetsSeq3 AutoSeq1 in
theorem lists_neW (hs:us.size=vs.size)(hL:LsAt s l us n d1 z1)(hB:LsAt s b vs m d2 z2)(he:∀ (j:Nat) (h1:j<us.size) (h2:j<vs.size),EqW P w A.in1 s us[j] vs[j])(h:R (.ok (.ret (.bool false))) s) :
    wpAny (model P w) A.in1 (Builtin.«list.__ne__» ⟨[.ref l,.ref b],[]⟩) (FinW P w A R) (fun e s'=>R (.error e) s') s:=by
  obtain ⟨hp,g,d,tk,oz⟩:=s
  have fL:=AutoSeq1.sub_list_list
  have hne:¬ (us.size != vs.size)=true:=by simp [hs]
  wp_walk using wpAny_loadPart' hL,wpAny_loadPart' hB
  refine ⟨plainId_quiet plain_eq_loop _,codeAny_builtin entry_eq_loop ?_⟩
  rw [Around.under_plainId plain_eq_loop]
  exact loopW hs (.inr ⟨rfl,rfl⟩) _ 0 rfl hL hB he h
open MeetsSeq MeetsSeq2 MeetsSeq3 AutoSeq1 in
theorem tups_eqW (hs:us.size=vs.size) (hL:TpAt s l us n d1 z1) (hB:TpAt s b vs m d2 z2) (he:∀ (j:Nat) (h1:j<us.size) (h2:j<vs.size),EqW P w A.in1 s us[j] vs[j]) (h:R (.ok (.ret (.bool true))) s) :
    wpAny (model P w) A.in1 (Builtin.«tuple.__eq__» ⟨[.ref l,.ref b],[]⟩) (FinW P w A R) (fun e s'=>R (.error e) s') s:=by
  refine wpAny_mono (Q:=fun fin s'=>∃ v,fin=.done (.ret v)∧R (.ok (.ret v)) s') ?_ (fun fin s' h'=>by obtain ⟨v,rfl,hv⟩:=h';exact hv) fun _ _ x=>x
  obtain ⟨hp,g,d,tk,oz⟩:=s
  have fT:=AutoSeq1.sub_tuple_tuple
  have zl:(us.toList.zip vs.toList).length=us.size:=by simp [hs]
  wp_walk using wpAny_loadPart' hL,wpAny_loadPart' hB,wpAny_forIn_list _ (fun rest b s'=>b.1=none∧s'=⟨hp,g,d,tk,oz⟩∧∃ i,rest=(us.toList.zip vs.toList).drop i) _
  case turn =>
    rintro ⟨y,x⟩ rest b s' ⟨hB',rfl,i,hz⟩
    have lt:i<(us.toList.zip vs.toList).length:=by
      rcases Nat.lt_or_ge i (us.toList.zip vs.toList).length with z | z
      · exact z
      · rw [List.drop_of_length_le z] at hz
        cases hz
    rw [List.drop_eq_getElem_cons lt] at hz
    injection hz with e1 e2
    have l1:i<us.size:=by omega
    have l2:i<vs.size:=by omega
    have a1:y=us[i]:=by
      have:=congrArg Prod.fst e1
      simpa using this
    have a2:x=vs[i]:=by
      have:=congrArg Prod.snd e1
      simpa using this
    subst a1 a2
    refine wpAny_bind (he i l1 l2 _ _ ?_)
    wp_walk
    exact ⟨rfl,rfl,i+1,e2⟩
  case fin =>
    rintro ⟨b1,b2⟩ s' ⟨hB',rfl,i,hz⟩
    simp only at hB'
    subst hB'
    wp_walk
    exact ⟨_,rfl,by simpa [Builtin.Tuple.tupleCompareSizes,hs] using h⟩
  case h=>exact ⟨rfl,rfl,0,rfl⟩
theorem EqW.refs {u v:Addr}(hne:u≠v)(h:∀ (E:Value→Shared→Prop) (Q:Value→Shared→Prop),Q (.bool true) s→wpAny (model P w) A (richCompare .Eq (.ref u) (.ref v)) Q E s):EqW P w A s (.ref u) (.ref v):=fun E Q hq=>by
  unfold eqBool
  refine wpAny_holding ?_
  refine wpAny_ite_split (fun z=>absurd (by have e:=eq_of_beq z;injection e) hne) fun _=>?_
  exact wpAny_bind (h E _ (wpAny_truthy_bool hq))
theorem EqW.of {u v:Value}(h:SeqAt.EqAt A s u v true):EqW P w A s u v:=fun E Q hq=>h P w E Q hq
theorem EqW.lists {u v:Addr}(hne:u≠v)(hl:s.heap.IsList u us)(hb:s.heap.IsList v vs)(hs:us.size=vs.size)(hu:A.units<cLine)(he:∀ (j:Nat) (h1:j<us.size) (h2:j<vs.size),EqW P w A.in1 s us[j] vs[j]):EqW P w A s (.ref u) (.ref v):=by
  refine .refs hne fun E Q q=>?_
  obtain ⟨⟨c1,d1,e1,z1⟩,ho,hc,n,hd⟩:=id hl
  obtain ⟨⟨c2,d2,e2,z2⟩,ho2,hc2,m,hd2⟩:=id hb
  simp only at hc hd hc2 hd2
  subst hc hd hc2 hd2
  have hT:s.TypeIs (.ref u) "list":=⟨_,ho,rfl⟩
  exact wpAny_richCompare_same_room (op:=.Eq) hT ⟨_,ho2,rfl⟩ F.slot_list_eq (wpAny_call (codeAny_call_builtin F.slot_list_eq.plain F.entry_list_eq (F.slot_list_eq.check _ _ _ _ _ _ _ _ hT (F.args_list_eq_2 _ _) (lists_eqW (R:=wants (fun v s1=>v≠.notImplemented∧Q v s1) E) hs ho ho2 he ⟨(fun x=>nomatch x),q⟩)))) hu
theorem EqW.tups {u v:Addr}(hne:u≠v)(hl:s.heap.IsTuple u us)(hb:s.heap.IsTuple v vs)(hs:us.size=vs.size)(hu:A.units<cLine)(he:∀ (j:Nat) (h1:j<us.size) (h2:j<vs.size),EqW P w A.in1 s us[j] vs[j]):EqW P w A s (.ref u) (.ref v):=by
  refine .refs hne fun E Q q=>?_
  obtain ⟨⟨c1,d1,e1,z1⟩,ho,hc,n,hd⟩:=id hl
  obtain ⟨⟨c2,d2,e2,z2⟩,ho2,hc2,m,hd2⟩:=id hb
  simp only at hc hd hc2 hd2
  subst hc hd hc2 hd2
  have hT:s.TypeIs (.ref u) "tuple":=⟨_,ho,rfl⟩
  exact wpAny_richCompare_same_room (op:=.Eq) hT ⟨_,ho2,rfl⟩ F.slot_tuple_eq (wpAny_call (codeAny_call_builtin F.slot_tuple_eq.plain F.entry_tuple_eq (F.slot_tuple_eq.check _ _ _ _ _ _ _ _ hT (F.args_tuple_eq_2 _ _) (tups_eqW (R:=wants (fun v s1=>v≠.notImplemented∧Q v s1) E) hs ho ho2 he ⟨(fun x=>nomatch x),q⟩)))) hu
theorem neW_lists {u v:Addr}{E Q:Value→Shared→Prop}(hl:s.heap.IsList u us)(hb:s.heap.IsList v vs)(hs:us.size=vs.size)(hu:A.units<cLine)(he:∀ (j:Nat) (h1:j<us.size) (h2:j<vs.size),EqW P w A.in1 s us[j] vs[j])(q:Q (.bool false) s):wpAny (model P w) A (compareOp .NotEq (.ref u) (.ref v)) Q E s:=by
  obtain ⟨⟨c1,d1,e1,z1⟩,ho,hc,n,hd⟩:=id hl
  obtain ⟨⟨c2,d2,e2,z2⟩,ho2,hc2,m,hd2⟩:=id hb
  simp only at hc hd hc2 hd2
  subst hc hd hc2 hd2
  have hT:s.TypeIs (.ref u) "list":=⟨_,ho,rfl⟩
  exact wpAny_richCompare_same_room (op:=.NotEq) hT ⟨_,ho2,rfl⟩ F.slot_list_ne (wpAny_call (codeAny_call_builtin F.slot_list_ne.plain F.entry_list_ne (F.slot_list_ne.check _ _ _ _ _ _ _ _ hT (F.args_list_ne_2 _ _) (lists_neW (R:=wants (fun v s1=>v≠.notImplemented∧Q v s1) E) hs ho ho2 he ⟨(fun x=>nomatch x),q⟩)))) hu
end
mutual
inductive Twn (K:PySem.W.Frag) (H:Hp):Nat→V→V→Prop
  | int {n:Nat} (i:Int):Twn K H n (.int i) (.int i)
  | str {n:Nat} (x:Str):Twn K H n (.str x) (.str x)
  | lst {n:Nat} {a b:Addr} {xs ys:List V} (ha:SqL K H a xs) (hb:SqL K H b ys) (r:Twns K H n xs ys):Twn K H (n+1) (.ref a) (.ref b)
  | tup {n:Nat} {a b:Addr} {xs ys:List V} (ha:SqT K H a xs) (hb:SqT K H b ys) (r:Twns K H n xs ys):Twn K H (n+1) (.ref a) (.ref b)
  | dic {n:Nat} {a b:Addr} {kvs:List (Key × V)} (ha:H a=some (.dK kvs)) (hb:H b=some (.dK kvs)) (nd:(kvs.map (·.1)).Nodup) (hi:∀ kv∈kvs,∃ i,kv.2=.int i):Twn K H (n+1) (.ref a) (.ref b)
inductive Twns (K:PySem.W.Frag) (H:Hp):Nat→List V→List V→Prop
  | nil {n:Nat}:Twns K H n [] []
  | cons {n:Nat} {x y:V} {xs ys:List V} (h:Twn K H n x y) (r:Twns K H n xs ys):Twns K H n (x::xs) (y::ys)
end
theorem Twns.of {K:PySem.W.Frag}{H:Hp}{n:Nat}:∀ {xs ys:List V},xs.length=ys.length→(∀ (i:Nat) x y,xs[i]?=some x→ys[i]?=some y→Twn K H n x y)→Twns K H n xs ys
  | [],[],_,_=>.nil
  | x::xs,y::ys,hl,h=>.cons (h 0 x y rfl rfl) (Twns.of (by simpa using hl) fun i a b e f=>h (i+1) a b e f)
section
variable {X:Cx}{pins:List (Addr × Obj)}{σ:St}{H:Hp}{s:Shared}
mutual
theorem Inv.twn (I:Inv X pins σ H s):∀ {n:Nat} {x y:V},Twn X.K H n x y→∀ {u v:Value} {A:Around},RelV x u→RelV y v→A.units+n≤cLine→EqW X.prog X.w A s u v
  | _,_,_,.int i,u,v,A,ru,rv,_=>by
    obtain ⟨t,rfl⟩:=ru
    obtain ⟨t',rfl⟩:=rv
    have:=PySem.W.keq_flat (A:=A) (s:=s) (v:=.int i t) (y:=.int i t') (d:=.int i) (e:=.int i) (fun _=>.int ..) (fun _=>.int ..)
    rw [show PyData.eqv (.int i) (.int i)=true by simp [PyData.eqv]] at this
    exact .of this
  | _,_,_,.str x,u,v,A,ru,rv,_=>by
    obtain ⟨t,rfl⟩:=ru
    obtain ⟨t',rfl⟩:=rv
    have:=PySem.W.keq_flat (A:=A) (s:=s) (v:=.str x t) (y:=.str x t') (d:=.str x) (e:=.str x) (fun _=>.str ..) (fun _=>.str ..)
    rw [show PyData.eqv (.str x) (.str x)=true by simp [PyData.eqv]] at this
    exact .of this
  | _,_,_,.lst (n:=n) (a:=a) (b:=b) ha hb r,u,v,A,ru,rv,hu=>by
    cases ru
    cases rv
    by_cases hab:a=b
    · subst hab
      exact .of (SeqAt.EqAt.same _)
    obtain ⟨is1,r1,p1,_⟩:=I.list ha
    obtain ⟨is2,r2,p2,_⟩:=I.list hb
    obtain ⟨hl,he⟩:=Inv.twns I r r1 r2 (A:=A.in1) (by rw [Around.in1_units];omega)
    exact .lists hab p1.isList p2.isList (by simpa using hl) (by omega) fun j h1 h2=>by simpa using he j (by simpa using h1) (by simpa using h2)
  | _,_,_,.tup (n:=n) (a:=a) (b:=b) ha hb r,u,v,A,ru,rv,hu=>by
    cases ru
    cases rv
    by_cases hab:a=b
    · subst hab
      exact .of (SeqAt.EqAt.same _)
    obtain ⟨is1,r1,p1,_⟩:=I.tuple ha
    obtain ⟨is2,r2,p2,_⟩:=I.tuple hb
    obtain ⟨hl,he⟩:=Inv.twns I r r1 r2 (A:=A.in1) (by rw [Around.in1_units];omega)
    exact .tups hab p1 p2 (by simpa using hl) (by omega) fun j h1 h2=>by simpa using he j (by simpa using h1) (by simpa using h2)
  | _,_,_,.dic (n:=n) (a:=a) (b:=b) ha hb nd hi,u,v,A,ru,rv,hu=>by
    cases ru
    cases rv
    by_cases hab:a=b
    · subst hab
      exact .of (SeqAt.EqAt.same _)
    obtain ⟨z1,d1,va,r1,e1⟩:=dk_of I.hok ha
    obtain ⟨z2,d2,vb,r2,e2⟩:=dk_of I.hok hb
    refine .refs hab fun E Q h=>PySem.W.keq_eq (r:=true) d1 d2 e1 e2 (by omega) (fun _=>hits_same nd hi r2 (fun _ h=>h) r1) ?_
    rw [← r1.length,← r2.length]
    simpa using h
theorem Inv.twns (I:Inv X pins σ H s):∀ {n:Nat} {xs ys:List V},Twns X.K H n xs ys→∀ {us vs:List Value} {A:Around},Vals xs us→Vals ys vs→A.units+n≤cLine→us.length=vs.length∧∀ (j:Nat) (h1:j<us.length) (h2:j<vs.length),EqW X.prog X.w A s us[j] vs[j]
  | _,_,_,.nil,us,vs,A,ru,rv,_=>by
    cases ru
    cases rv
    exact ⟨rfl,fun j h1=>absurd h1 (by simp)⟩
  | _,_,_,.cons h r,us,vs,A,ru,rv,hu=>by
    cases ru with
    | cons a1 a2 =>
      cases rv with
      | cons b1 b2 =>
        obtain ⟨l,q⟩:=Inv.twns I r a2 b2 hu
        refine ⟨by simp [l],fun j h1 h2=>?_⟩
        cases j with
        | zero=>exact Inv.twn I h a1 b1 hu
        | succ j=>exact q j (by simpa using h1) (by simpa using h2)
end
end
def rNeT (K:PySem.W.Frag):R2:=fun x y H Q=>∃ a b xs ys,x=.ref a∧y=.ref b∧SqL K H a xs∧SqL K H b ys∧((Twns K H 8 xs ys∧Q (.bl false) H)∨(xs.length≠ys.length∧Q (.bl true) H))
theorem op_neT {X:Cx}(K:PySem.W.Frag)(hu:X.A.units+64<cLine)(h:X.K=K:=by rfl):OpR X (compareOp .NotEq) (rNeT K):=by
  subst h
  intro pins s σ H x y v u Q I rx ry h
  obtain ⟨a,b,xs,ys,rfl,rfl,ha,hb,h⟩:=h
  cases rx
  cases ry
  obtain ⟨is1,r1,p1,_⟩:=I.list ha
  obtain ⟨is2,r2,p2,_⟩:=I.list hb
  rcases h with ⟨h,q⟩ | ⟨h,q⟩
  · obtain ⟨hl,he⟩:=Inv.twns I h r1 r2 (A:=X.A.in1) (by rw [Around.in1_units];omega)
    exact neW_lists p1.isList p2.isList (by simpa using hl) (by omega) (fun j h1 h2=>by simpa using he j (by simpa using h1) (by simpa using h2)) ⟨.bl false,H,I,rfl,q⟩
  · have z:=SeqAt.RcNeAt.lists_lengths (A:=X.A) p1.isList p2.isList (by
      have l1:=Paired.length r1
      have l2:=Paired.length r2
      simp only [List.size_toArray,bne_iff_ne,ne_eq]
      omega) (by omega)
    exact z X.prog X.w X.xe _ ⟨.bl true,H,I,rfl,q⟩
theorem rNeT_ap {K:PySem.W.Frag}{x y:V}{H:Hp}{Q:VK}:rNeT K x y H Q=∃ a b xs ys,x=.ref a∧y=.ref b∧SqL K H a xs∧SqL K H b ys∧((Twns K H 8 xs ys∧Q (.bl false) H)∨(xs.length≠ys.length∧Q (.bl true) H)):=rfl
section
variable {a:Addr}{o:Obj}{kvs:List (Key × V)}{m:Nat}{caps:List Nat}{tt:TT}{te:TE}{σ:St}{H1:Hp}{Q:VK}
theorem compAD (Rl:Nat→V→Hp→Prop)(mono:∀ i y H H',Same H H'→Rl i y H→Rl i y H')(hS:H1 a=some (.frz o (.dK kvs)))(hn:kvs.length≤1000000)
    (he:∀ i kv H2 (R:VK),kvs[i]?=some kv→Same H1 H2→(∀ y H3,Same H2 H3→Rl i y (New H2 H3)→R y H3)→te ((capSt m caps σ).set 0 (some (kV kv.1))) H2 R)
    (hq:∀ D ys H2,H1 D=none→Same H1 H2→H2 D=some (.lst ys)→ys.length=kvs.length→(∀ j y,ys[j]?=some y→Rl j y (del (New H1 H2) D))→Q (.ref D) H2):CompJ (Itd a o kvs) m caps (gName 0) tNoTest te σ H1 Q:=by
  refine compG (n:=kvs.length) (fun D i ys H2=>i≤kvs.length∧Same H1 H2∧H2 D=some (.lst ys)∧ys.length=i∧∀ j y,ys[j]?=some y→Rl j y (del (New H1 H2) D)) (fun D hD=>⟨Nat.zero_le _,Same.new hD,upd_same,rfl,fun j y h=>by cases h⟩) (fun D i ys H2 h=>h.1)
    (fun D ys H2 hD h=>⟨h.2.1 _ _ hS,Nat.le_refl _⟩) (fun D i ys H2 hD hi h=>⟨h.2.1 _ _ hS,hi⟩) ?_ (fun D ys H2 hD h=>hq D ys H2 hD h.2.1 h.2.2.1 h.2.2.2.1 h.2.2.2.2)
  rintro D i ys H2 x H3 hD hi ⟨_,s2,h2,rfl,h3⟩ ⟨rfl,kv,hkv,rfl⟩
  rw [gName_ap,tNoTest_ap]
  rw [if_pos rfl]
  refine he _ kv H3 _ hkv s2 fun z H4 s4 rz=>compYes hn hi (Nat.le_refl _) (s4 _ _ h2) ⟨hi,(s2.trans s4).put hD,upd_same,by rw [List.length_append];rfl,fun j y hj=>?_⟩
  by_cases hl:j<ys.length
  · rw [List.getElem?_append_left hl] at hj
    refine mono _ _ _ _ (fun b o hb=>?_) (h3 j y hj)
    obtain ⟨n1,e1⟩:=del_some hb
    obtain ⟨e1,e2⟩:=New.some e1
    rw [del_ne n1]
    refine New.of e1 ?_
    rw [upd_ne n1]
    exact s4 _ _ e2
  · rw [List.getElem?_append_right (by omega)] at hj
    have e0:j-ys.length=0:=by
      have:=(List.getElem?_eq_some_iff.mp hj).1
      simp at this
      omega
    rw [e0] at hj
    cases hj
    have e1:j=ys.length:=by omega
    subst e1
    refine mono _ _ _ _ (fun b o hb=>?_) rz
    obtain ⟨e1,e2⟩:=New.some hb
    have n1:b≠D:=fun z=>by rw [z,h2] at e1;cases e1
    rw [del_ne n1]
    refine New.of ?_ ?_
    · cases e:H1 b with
      | none=>rfl
      | some o=>rw [s2 _ _ e] at e1;cases e1
    · rw [upd_ne n1]
      exact e2
end
end L2
namespace L2
open PySem
theorem sThaw_ap {t:TS}{D:Ends}{σ:St}{H:Hp}:sThaw t D σ H=∃ p kvs,H p=some (.dK kvs)∧t { nx:=fun σ' H'=>∃ o,H' p=some (.frz o (.dK kvs))∧D.nx σ' (upd H' p (.dK kvs)),rt:=fun v H'=>∃ o,H' p=some (.frz o (.dK kvs))∧D.rt v (upd H' p (.dK kvs)),bk:=fun σ' H'=>∃ o,H' p=some (.frz o (.dK kvs))∧D.bk σ' (upd H' p (.dK kvs)),ct:=fun σ' H'=>∃ o,H' p=some (.frz o (.dK kvs))∧D.ct σ' (upd H' p (.dK kvs)) } σ H:=rfl
end L2
namespace My
open PySem L2 BM PyProof.Rows
def top (i:Nat):Stmt:=PySem.Challenge.pw_runmarks_k68_rows_and_sums.main.body.getD i (.Pass ⟨0,0,0,0⟩)
abbrev s_plain_rows:Stmt:=top 2
theorem sc_plain_rows:FnScope ["question","table"] ["question","table"] (defScope s_plain_rows):=by walk_at "s"
abbrev s_plain_total:Stmt:=top 3
theorem sc_plain_total:FnScope ["name","question","table"] ["name","question","table"] (defScope s_plain_total):=by walk_at "s"
abbrev s_plain_least:Stmt:=top 4
theorem sc_plain_least:FnScope ["name","question","table","rows","least"] ["name","question","table"] (defScope s_plain_least):=by walk_at "s"
abbrev s_l_cell_at:Stmt:=top 15
theorem sc_l_cell_at:FnScope ["_law_script","_law_k"] ["_law_script","_law_k"] (defScope s_l_cell_at):=by walk_at "s"
abbrev s_l_whole:Stmt:=top 16
theorem sc_l_whole:FnScope ["_law_found"] ["_law_found"] (defScope s_l_whole):=by walk_at "s"
abbrev s_l_mixed:Stmt:=top 17
theorem sc_l_mixed:FnScope ["_law_cell","_law_k","_law_number"] ["_law_cell","_law_k"] (defScope s_l_mixed):=by walk_at "s"
abbrev s_l_flat:Stmt:=top 18
theorem sc_l_flat:FnScope ["_law_found","_law_due"] ["_law_found","_law_due"] (defScope s_l_flat):=by walk_at "s"
abbrev s_l_name_of:Stmt:=top 19
theorem sc_l_name_of:FnScope ["_law_letters"] ["_law_letters"] (defScope s_l_name_of):=by walk_at "s"
abbrev s_l_names:Stmt:=top 20
theorem sc_l_names:FnScope ["_law_script","_law_most","_law_x","_law_size","_law_names_here","_law_k","_law_letters","_law_j","_law_number"] ["_law_script","_law_most"] (defScope s_l_names):=by walk_at "s"
abbrev s_l_leaf:Stmt:=top 21
theorem sc_l_leaf:FnScope ["_law_cell","_law_names_here","_law_wide","_law_x","_law_y","_law_low","_law_high","_law_leaf_here"] ["_law_cell","_law_names_here","_law_wide"] (defScope s_l_leaf):=by walk_at "s"
abbrev s_l_built:Stmt:=top 22
theorem sc_l_built:FnScope ["_law_script","_law_most","_law_wide","_law_names_here","_law_items","_law_left","_law_nots","_law_cell","_law_x","_law_many","_law_deep","_law_parts"] ["_law_script","_law_most"] (defScope s_l_built):=by walk_at "s"
abbrev s_l_made:Stmt:=top 23
theorem sc_l_made:FnScope ["_law_tree","_law_parts"] ["_law_tree"] (defScope s_l_made):=by walk_at "s"
abbrev s_l_holds:Stmt:=top 24
theorem sc_l_holds:FnScope ["_law_tree","_law_values"] ["_law_tree","_law_values"] (defScope s_l_holds):=by walk_at "s"
abbrev s_l_numbers_in:Stmt:=top 25
theorem sc_l_numbers_in:FnScope ["_law_tree","_law_found","_law_part"] ["_law_tree"] (defScope s_l_numbers_in):=by walk_at "s"
abbrev s_l_measure:Stmt:=top 26
theorem sc_l_measure:FnScope ["_law_tree","_law_leaves","_law_deep","_law_names_here","_law_total","_law_part"] ["_law_tree"] (defScope s_l_measure):=by walk_at "s"
abbrev s_l_table:Stmt:=top 27
theorem sc_l_table:FnScope ["_law_script","_law_names_here","_law_numbers","_law_table_here","_law_cell","_law_x","_law_row","_law_values","_law_k","_law_y"] ["_law_script","_law_names_here","_law_numbers"] (defScope s_l_table):=by walk_at "s"
abbrev s_l_counted:Stmt:=top 28
theorem sc_l_counted:FnScope ["_law_question","_law_tree","_law_leaves","_law_deep","_law_names_here","_law_found"] ["_law_question","_law_tree"] (defScope s_l_counted):=by walk_at "s"
abbrev s_l_summed:Stmt:=top 29
theorem sc_l_summed:FnScope ["_law_name","_law_question","_law_table_here","_law_rows","_law_found","_law_lowest"] ["_law_name","_law_question","_law_table_here","_law_rows"] (defScope s_l_summed):=by walk_at "s"
abbrev s_law:Stmt:=top 30
theorem sc_law:FnScope ["_law_script","_law_tree","_law_names_here","_law_question","_law_table_here","_law_plain","_law_rows","_law_name","_law_rest","_law_gone"] ["_law_script"] (defScope s_law):=by walk_at "s"
abbrev s_Question_mentions:Stmt:=inClass (top 6) 0
theorem sc_Question_mentions:FnScope ["self","names","question"] ["self"] (defScope s_Question_mentions):=by walk_at "s"
abbrev s_Question_leaves:Stmt:=inClass (top 6) 1
theorem sc_Question_leaves:FnScope ["self"] ["self"] (defScope s_Question_leaves):=by walk_at "s"
abbrev s_Question_depth:Stmt:=inClass (top 6) 2
theorem sc_Question_depth:FnScope ["self"] ["self"] (defScope s_Question_depth):=by walk_at "s"
abbrev s_Leaf_beneath:Stmt:=inClass (top 7) 0
theorem sc_Leaf_beneath:FnScope ["self"] ["self"] (defScope s_Leaf_beneath):=by walk_at "s"
abbrev s_Leaf_leaves:Stmt:=inClass (top 7) 1
theorem sc_Leaf_leaves:FnScope ["self"] ["self"] (defScope s_Leaf_leaves):=by walk_at "s"
abbrev s_Leaf_depth:Stmt:=inClass (top 7) 2
theorem sc_Leaf_depth:FnScope ["self"] ["self"] (defScope s_Leaf_depth):=by walk_at "s"
abbrev s_Every_holds:Stmt:=inClass (top 8) 0
theorem sc_Every_holds:FnScope ["self","values"] ["self","values"] (defScope s_Every_holds):=by walk_at "s"
abbrev s_Nobody_holds:Stmt:=inClass (top 9) 0
theorem sc_Nobody_holds:FnScope ["self","values"] ["self","values"] (defScope s_Nobody_holds):=by walk_at "s"
abbrev s_Within___init__:Stmt:=inClass (top 10) 0
theorem sc_Within___init__:FnScope ["self","name","low","high"] ["self","name","low","high"] (defScope s_Within___init__):=by walk_at "s"
abbrev s_Within_mentions:Stmt:=inClass (top 10) 1
theorem sc_Within_mentions:FnScope ["self"] ["self"] (defScope s_Within_mentions):=by walk_at "s"
abbrev s_Within_holds:Stmt:=inClass (top 10) 2
theorem sc_Within_holds:FnScope ["self","values"] ["self","values"] (defScope s_Within_holds):=by walk_at "s"
abbrev s_Opposite___init__:Stmt:=inClass (top 11) 0
theorem sc_Opposite___init__:FnScope ["self","one"] ["self","one"] (defScope s_Opposite___init__):=by walk_at "s"
abbrev s_Opposite_beneath:Stmt:=inClass (top 11) 1
theorem sc_Opposite_beneath:FnScope ["self"] ["self"] (defScope s_Opposite_beneath):=by walk_at "s"
abbrev s_Opposite_holds:Stmt:=inClass (top 11) 2
theorem sc_Opposite_holds:FnScope ["self","values"] ["self","values"] (defScope s_Opposite_holds):=by walk_at "s"
abbrev s_AllOf___init__:Stmt:=inClass (top 12) 0
theorem sc_AllOf___init__:FnScope ["self","parts"] ["self","parts"] (defScope s_AllOf___init__):=by walk_at "s"
abbrev s_AllOf_beneath:Stmt:=inClass (top 12) 1
theorem sc_AllOf_beneath:FnScope ["self"] ["self"] (defScope s_AllOf_beneath):=by walk_at "s"
abbrev s_AllOf_holds:Stmt:=inClass (top 12) 2
theorem sc_AllOf_holds:FnScope ["self","values"] ["self","values"] (defScope s_AllOf_holds):=by walk_at "s"
abbrev s_OneOf___init__:Stmt:=inClass (top 13) 0
theorem sc_OneOf___init__:FnScope ["self","parts"] ["self","parts"] (defScope s_OneOf___init__):=by walk_at "s"
abbrev s_OneOf_beneath:Stmt:=inClass (top 13) 1
theorem sc_OneOf_beneath:FnScope ["self"] ["self"] (defScope s_OneOf_beneath):=by walk_at "s"
abbrev s_OneOf_holds:Stmt:=inClass (top 13) 2
theorem sc_OneOf_holds:FnScope ["self","values"] ["self","values"] (defScope s_OneOf_holds):=by walk_at "s"
structure Blt (mg:Str→Option Value):Prop where
  len:mg "len"=none
  range:mg "range"=none
  isi:mg "isinstance"=none
  int:mg "int"=none
  bool:mg "bool"=none
  lst:mg "list"=none
  tup:mg "tuple"=none
  min:mg "min"=none
  max:mg "max"=none
  sorted:mg "sorted"=none
  sum:mg "sum"=none
  dct:mg "dict"=none
  any:mg "any"=none
  all:mg "all"=none
structure CD_Every (K:PySem.W.Frag)(mg:Str→Option Value)(C:Addr):Prop where
  at_:mg "Every"=some (.ref C)
  c:Cls K C
  m_holds:MDefAt K C "holds" "Every.holds" s_Every_holds ["self","values"]
  m_beneath:MDefAt K C "beneath" "Leaf.beneath" s_Leaf_beneath ["self"]
  m_leaves:MDefAt K C "leaves" "Leaf.leaves" s_Leaf_leaves ["self"]
  m_depth:MDefAt K C "depth" "Leaf.depth" s_Leaf_depth ["self"]
  m_mentions:MDefAt K C "mentions" "Question.mentions" s_Question_mentions ["self"]
  new:MkN K C
structure CD_Nobody (K:PySem.W.Frag)(mg:Str→Option Value)(C:Addr):Prop where
  at_:mg "Nobody"=some (.ref C)
  c:Cls K C
  m_holds:MDefAt K C "holds" "Nobody.holds" s_Nobody_holds ["self","values"]
  m_beneath:MDefAt K C "beneath" "Leaf.beneath" s_Leaf_beneath ["self"]
  m_leaves:MDefAt K C "leaves" "Leaf.leaves" s_Leaf_leaves ["self"]
  m_depth:MDefAt K C "depth" "Leaf.depth" s_Leaf_depth ["self"]
  m_mentions:MDefAt K C "mentions" "Question.mentions" s_Question_mentions ["self"]
  new:MkN K C
structure CD_Within (K:PySem.W.Frag)(mg:Str→Option Value)(C:Addr):Prop where
  at_:mg "Within"=some (.ref C)
  c:Cls K C
  init:MakerAt K C "Within.__init__" s_Within___init__ ["self","name","low","high"]
  m_mentions:MDefAt K C "mentions" "Within.mentions" s_Within_mentions ["self"]
  m_holds:MDefAt K C "holds" "Within.holds" s_Within_holds ["self","values"]
  m_beneath:MDefAt K C "beneath" "Leaf.beneath" s_Leaf_beneath ["self"]
  m_leaves:MDefAt K C "leaves" "Leaf.leaves" s_Leaf_leaves ["self"]
  m_depth:MDefAt K C "depth" "Leaf.depth" s_Leaf_depth ["self"]
  n_name:NoAttr K C "name"
  n_low:NoAttr K C "low"
  n_high:NoAttr K C "high"
structure CD_Opposite (K:PySem.W.Frag)(mg:Str→Option Value)(C:Addr):Prop where
  at_:mg "Opposite"=some (.ref C)
  c:Cls K C
  init:MakerAt K C "Opposite.__init__" s_Opposite___init__ ["self","one"]
  m_beneath:MDefAt K C "beneath" "Opposite.beneath" s_Opposite_beneath ["self"]
  m_holds:MDefAt K C "holds" "Opposite.holds" s_Opposite_holds ["self","values"]
  m_mentions:MDefAt K C "mentions" "Question.mentions" s_Question_mentions ["self"]
  m_leaves:MDefAt K C "leaves" "Question.leaves" s_Question_leaves ["self"]
  m_depth:MDefAt K C "depth" "Question.depth" s_Question_depth ["self"]
  n_one:NoAttr K C "one"
structure CD_AllOf (K:PySem.W.Frag)(mg:Str→Option Value)(C:Addr):Prop where
  at_:mg "AllOf"=some (.ref C)
  c:Cls K C
  init:MakerAt K C "AllOf.__init__" s_AllOf___init__ ["self","parts"]
  m_beneath:MDefAt K C "beneath" "AllOf.beneath" s_AllOf_beneath ["self"]
  m_holds:MDefAt K C "holds" "AllOf.holds" s_AllOf_holds ["self","values"]
  m_mentions:MDefAt K C "mentions" "Question.mentions" s_Question_mentions ["self"]
  m_leaves:MDefAt K C "leaves" "Question.leaves" s_Question_leaves ["self"]
  m_depth:MDefAt K C "depth" "Question.depth" s_Question_depth ["self"]
  n_parts:NoAttr K C "parts"
structure CD_OneOf (K:PySem.W.Frag)(mg:Str→Option Value)(C:Addr):Prop where
  at_:mg "OneOf"=some (.ref C)
  c:Cls K C
  init:MakerAt K C "OneOf.__init__" s_OneOf___init__ ["self","parts"]
  m_beneath:MDefAt K C "beneath" "OneOf.beneath" s_OneOf_beneath ["self"]
  m_holds:MDefAt K C "holds" "OneOf.holds" s_OneOf_holds ["self","values"]
  m_mentions:MDefAt K C "mentions" "Question.mentions" s_Question_mentions ["self"]
  m_leaves:MDefAt K C "leaves" "Question.leaves" s_Question_leaves ["self"]
  m_depth:MDefAt K C "depth" "Question.depth" s_Question_depth ["self"]
  n_parts:NoAttr K C "parts"
local macro_rules | `(tactic| walk_at "vc")=>`(tactic| ((try dsimp only [tSeq_ap,tNext_ap,tAsg_ap,gName_ap,tVar_ap,tC_ap,tOp_ap,tUn_ap,rI_ap,rI0_ap,rU_ap,rEq_ap,rNe_ap,tRet_ap,tDrop_ap,tIfS_ap,tTest_ap,tB_ap,tAnd_ap,tOr_ap,tNot_ap,tAndV_ap,tNotV_ap,tCall_ap,tNil_ap,tCons_ap,tTup_ap,tLst_ap,tCB_ap,tBM_ap,rIxL_ap,rIxT_ap,rIxS_ap,rAppend_ap,rCat_ap,iRng1_ap,iList_ap,tDGet_ap,sDPut_ap,tChain_ap,tNoTest_ap,tFor_ap,tComp_ap,rLen_ap,rListOf_ap,rIn_ap,tDNewK_ap,tMeD_ap,rExtend_ap,rAll_ap,rAny_ap,tNew_ap,rSum_ap,rSortD_ap,rMinL_ap,tThaw_ap,sThaw_ap,rNeT_ap,iDict_ap,rDictOf_ap,tMake_ap,tFld_ap,sFld_ap,gTup_ap,gCons_ap,gNil_ap,tSl_ap,tNoPart_ap,tPart_ap,rSlL_ap,L2.start,capSt]); (try simp only [tSeq_ap,tNext_ap,tAsg_ap,gName_ap,tVar_ap,tC_ap,tOp_ap,tUn_ap,rI_ap,rI0_ap,rU_ap,rEq_ap,rNe_ap,scal_ii,scal_bb,scal_ss,tRet_ap,tDrop_ap,tIfS_ap,tTest_ap,tB_ap,tAnd_ap,tOr_ap,tNot_ap,tAndV_ap,tNotV_ap,tCall_ap,tNil_ap,tCons_ap,tTup_ap,tLst_ap,tCB_ap,tBM_ap,tyV_int,tyV_list,rIxL_ap,rIxT_ap,rIxS_ap,rAppend_ap,rCat_ap,iRng1_ap,iList_ap,tDGet_ap,sDPut_ap,tChain_ap,tNoTest_ap,rIsi_int,rIsi_intb,tFor_ap,tComp_ap,rLen_ap,rListOf_ap,rIn_ap,tDNewK_ap,tMeD_ap,rExtend_ap,rAll_ap,rAny_ap,tNew_ap,rSum_ap,rSortD_ap,rMinL_ap,tThaw_ap,sThaw_ap,rNeT_ap,iDict_ap,tDPop1,rDictOf_ap,tCBK,rMaxD,tMake_ap,tFld_ap,sFld_ap,gTup_ap,gCons_ap,gNil_ap,tSl_ap,tNoPart_ap,tPart_ap,rSlL_ap,tyV_str,CDiv,CMul,CPow,CShl,L2.start,capSt,List.map_cons,List.map_nil,List.length_cons,List.length_nil,List.append_nil,List.nil_append,List.cons_append,List.getElem?_cons_zero,List.getElem?_cons_succ,List.set_cons_zero,List.set_cons_succ,List.getD_cons_zero,List.getD_cons_succ,rep0,rep1,rep2,rep3,rep4,rep5,rep6,rep7,rep8,rep9,rep10,rep11,Nat.reduceAdd,Nat.reduceSub,Int.reduceLT,Int.reduceLE,Int.reducePow,Int.reduceNeg,Int.reduceMul,Int.reduceAdd,Int.reduceSub,Int.reduceToNat,Int.reduceEq,reduceIte,Option.some.injEq,V.int.injEq,V.bl.injEq,V.ref.injEq,V.str.injEq,V.ty.injEq,List.cons.injEq,exists_and_left,exists_eq_left,exists_eq_left',exists_eq_right,exists_eq',exists_eq,and_true,true_and,Int.zero_add,decide_eq_true_eq,Bool.not_eq_true',decide_eq_false_iff_not,if_true,if_false,Bool.false_eq_true,Bool.true_eq_false,ite_not,not_true_eq_false,not_false_eq_true,Bool.not_true,Bool.not_false,decide_true,decide_false,or_true,true_or,reduceCtorEq,false_and,and_false,exists_false,false_or,or_false])))
def mixI (c k:Int):Int:=((c*48271+k*7919+104729)%2147483647)*((c*48271+k*7919+104729)%2147483647)%2147483629
def spMixed:Sp:=fun vs H Q _=>∃ c k:Int,vs=[.int c,.int k]∧Q (.int (mixI c k)) H
section
variable {P:Program}{w:World}{K:PySem.W.Frag}{mg:Str→Option Value}{base:Heap}
theorem ok_mixed (d:DefAt K mg "_law_mixed" s_l_mixed ["_law_cell","_law_k"]):FnAt P w K mg base "_law_mixed" ["_law_cell","_law_k"] 1 spMixed:=by
  refine FnAt.of d sc_l_mixed (fun vs H Q E h=>?_) (fun f cdv A outer s H vs Q E hr h=>?_)
  · obtain ⟨c,k,rfl,_⟩:=h
    rfl
  obtain ⟨c,k,rfl,q⟩:=h
  refine ⟨_,(pss_cons (ps_set (i:=2) sc_l_mixed.nd rfl (by walk_at "l") (pe_op op_mod (pe_op op_add (pe_op op_add (pe_op op_mul (pv 0) pe_int) (pe_op op_mul (pv 1) pe_int)) pe_int) pe_int))
      (pss_one (ps_ret (pe_op op_mod (pe_op op_mul (pv 2) (pv 2)) pe_int)))),?_⟩
  walk_at "vc"
  have h1:=Int.emod_nonneg (c*48271+k*7919+104729) (b:=2147483647) (by decide)
  have h2:=Int.emod_lt_of_pos (c*48271+k*7919+104729) (b:=2147483647) (by decide)
  exact ⟨.inl ⟨by omega,by omega⟩,q⟩
end
def spCell (K:PySem.W.Frag):Sp:=fun vs H Q _=>∃ (a:Addr) (ns:List Int) (k:Nat),vs=[.ref a,.int k]∧SqL K H a (ns.map V.int)∧Q (.int (ns.getD k 0)) H
section
variable {P:Program}{w:World}{K:PySem.W.Frag}{mg:Str→Option Value}{base:Heap}
theorem ok_cell_at (B:Blt mg)(d:DefAt K mg "_law_cell_at" s_l_cell_at ["_law_script","_law_k"]):FnAt P w K mg base "_law_cell_at" ["_law_script","_law_k"] 1 (spCell K):=by
  refine FnAt.of d sc_l_cell_at (fun vs H Q E h=>?_) (fun f cdv A outer s H vs Q E hr h=>?_)
  · obtain ⟨a,ns,k,rfl,_⟩:=h
    rfl
  obtain ⟨a,ns,k,rfl,hS,q⟩:=h
  refine ⟨_,(pss_cons (ps_if (pt_cmpR op_lt (pv 1) (pe_callB (call_lenK K) rfl B.len PySem.boot_len (pa_cons (pv 0) pa_nil)) (nomark _)) (pss_one (ps_ret (pe_ix (ix_listK K) (pv 0) (pv 1) (fun _ _=>rfl)))) pss_nil)
      (pss_one (ps_ret pe_int))),?_⟩
  walk_at "vc"
  refine ⟨_,.inl hS,?_⟩
  rw [List.length_map]
  by_cases hk:k<ns.length
  · rw [if_pos (by omega)]
    refine ⟨_,hS,.int (ns.getD k 0),atI_nat ?_,q⟩
    rw [List.getElem?_map,List.getElem?_eq_getElem hk,List.getD_eq_getElem?_getD,List.getElem?_eq_getElem hk]
    rfl
  · rw [if_neg (by omega)]
    have e:ns.getD k 0=0:=by rw [List.getD_eq_getElem?_getD,List.getElem?_eq_none (by omega)];rfl
    rw [e] at q
    exact q
end
def spWhole:Sp:=fun vs H Q _=>∃ i:Int,vs=[.int i]∧Q (.bl true) H
section
variable {P:Program}{w:World}{K:PySem.W.Frag}{mg:Str→Option Value}{base:Heap}
theorem ok_whole (B:Blt mg)(d:DefAt K mg "_law_whole" s_l_whole ["_law_found"]):FnAt P w K mg base "_law_whole" ["_law_found"] 1 spWhole:=by
  refine FnAt.of d sc_l_whole (fun vs H Q E h=>?_) (fun f cdv A outer s H vs Q E hr h=>?_)
  · obtain ⟨k,rfl,_⟩:=h
    rfl
  obtain ⟨k,rfl,q⟩:=h
  refine ⟨_,(pss_one (ps_ret (pe_and (pe_callB (call_isiK K) rfl B.isi boot_isi (pa_cons (pv 0) (pa_cons (pe_bltn (v:=.ty "int") rfl B.int boot_int rfl) pa_nil))) (pe_one (pe_not (pe_callB (call_isiK K) rfl B.isi boot_isi (pa_cons (pv 0) (pa_cons (pe_bltn (v:=.ty "bool") rfl B.bool boot_bool rfl) pa_nil)))))))),?_⟩
  walk_at "vc"
  exact q
end
abbrev letS:Str:=Str.ofString "abcdefghijklmnopqrstuvwxyz"
theorem small5 {n:Nat}(h:n≤100000):n≤sizeLine:=Nat.le_trans h (by decide)
theorem str_app (a b:Str):(a++b).length=a.length+b.length:=by
  show (a.cps++b.cps).size=a.cps.size+b.cps.size
  exact Array.size_append
theorem atI_in {xs:List Nat}{i:Int}(h0:0≤i)(h1:i<(xs.length:Int)):∃ c,atI xs i=some c:=by
  obtain ⟨n,rfl⟩:=Int.eq_ofNat_of_zero_le h0
  have h:n<xs.length:=by omega
  exact ⟨xs[n],atI_nat (List.getElem?_eq_getElem h)⟩
theorem let26:letS.cps.toList.length=26:=by decide +kernel
def ws8:List V:=[.str (Str.ofString "and"),.str (Str.ofString "or"),.str (Str.ofString "not"),.str (Str.ofString "all"),.str (Str.ofString "none"),.str (Str.ofString "is"),.str (Str.ofString "from"),.str (Str.ofString "to")]
theorem flat8:ws8.all flatV=true:=by decide
def nmOf (w:Str):Str:=if inV (.str w) ws8=true then w++Str.ofString "x" else w
def spNmOf:Sp:=fun vs H Q _=>∃ w:Str,vs=[.str w]∧w.length≤1000∧∀ H',Same H H'→Q (.str (nmOf w)) H'
section
variable {P:Program}{w:World}{K:PySem.W.Frag}{mg:Str→Option Value}{base:Heap}
theorem ok_name_of (B:Blt mg)(d:DefAt K mg "_law_name_of" s_l_name_of ["_law_letters"]):FnAt P w K mg base "_law_name_of" ["_law_letters"] 1 spNmOf:=by
  refine FnAt.of d sc_l_name_of (fun vs H Q E h=>?_) (fun f cdv A outer s H vs Q E hr h=>?_)
  · obtain ⟨x,rfl,_⟩:=h
    rfl
  obtain ⟨x,rfl,hl,q⟩:=h
  refine ⟨_,(pss_cons (ps_if (pt_cmpR (op_inK K) (pv 0) (pe_lst (pa_cons pe_str (pa_cons pe_str (pa_cons pe_str (pa_cons pe_str (pa_cons pe_str (pa_cons pe_str (pa_cons pe_str (pa_cons pe_str pa_nil))))))))) (by with_unfolding_all rfl)) (pss_one (ps_ret (pe_op op_add_str (pv 0) pe_str))) pss_nil)
      (pss_one (ps_ret (pv 0)))),?_⟩
  walk_at "vc"
  refine ⟨by decide,fun p hp=>⟨ws8,.inl (SqL.of (upd_same)),rfl,flat8,?_⟩⟩
  have q:=q _ (Same.new (o:=.lst ws8) hp)
  unfold nmOf at q
  by_cases c:inV (.str x) ws8=true
  · rw [if_pos c] at q ⊢
    exact ⟨small5 (by rw [show (Str.ofString "x").length=1 by decide +kernel];omega),q⟩
  · rw [if_neg c] at q ⊢
    exact q
end
def lwJ (x:Int)(size k j:Nat):Int:=(x/(j+2)+5*j+k*(if (j:Int)=x/64%size then 1 else 0))%26
def sgS (n:Int):Str:=⟨#[(atI letS.cps.toList n).getD 0]⟩
def lwS (x:Int)(size k:Nat):Nat→Str
  | 0=>Str.ofString ""
  | j+1=>lwS x size k j++sgS (lwJ x size k j)
theorem lwS_len (x:Int)(size k:Nat):∀ j,(lwS x size k j).length=j
  | 0=>rfl
  | j+1=>by
    show (_++sgS _).length=_
    rw [str_app,lwS_len x size k j]
    rfl
def nmK (x:Int)(size k:Nat):Str:=nmOf (lwS x size k size)
def nmsX (x:Int)(m:Int):Nat:=1+(x%m).toNat
def nms (ns:List Int)(m:Int):List Str:=(List.range 3).map fun k=>nmK (mixI (ns.getD 0 0) 0) (nmsX (mixI (ns.getD 0 0) 0) m) k
def spNames (K:PySem.W.Frag):Sp:=fun vs H Q _=>∃ (a:Addr) (ns:List Int) (m:Int),vs=[.ref a,.int m]∧SqL K H a (ns.map V.int)∧0<m∧m≤8∧∀ p H',Same H H'→H' p=some (.lst ((nms ns m).map V.str))→Q (.ref p) H'
structure NmI (a p:Addr)(m x:Int)(size:Nat)(H:Hp)(k:Nat)(σ:L2.St)(H':Hp):Prop where
  ex:∃ v5 v6 v7 v8,σ=[some (.ref a),some (.int m),some (.int x),some (.int size),some (.ref p),v5,v6,v7,v8]
  sm:Same H H'
  hp:H' p=some (.lst ((List.range k).map fun i=>V.str (nmK x size i)))
structure LwI (a p:Addr)(m x:Int)(size k:Nat)(H:Hp)(j:Nat)(σ:L2.St)(H':Hp):Prop where
  ex:∃ v7 v8,σ=[some (.ref a),some (.int m),some (.int x),some (.int size),some (.ref p),some (.int k),some (.str (lwS x size k j)),v7,v8]
  hp:H'=H
section
variable {P:Program}{w:World}{K:PySem.W.Frag}{mg:Str→Option Value}{base:Heap}
theorem ok_names (B:Blt mg)(h_l_mixed:FnAt P w K mg base "_law_mixed" ["_law_cell","_law_k"] 1 spMixed)(h_l_cell_at:FnAt P w K mg base "_law_cell_at" ["_law_script","_law_k"] 1 (spCell K))(h_l_name_of:FnAt P w K mg base "_law_name_of" ["_law_letters"] 1 spNmOf)(d:DefAt K mg "_law_names" s_l_names ["_law_script","_law_most"]):FnAt P w K mg base "_law_names" ["_law_script","_law_most"] 2 (spNames K):=by
  refine FnAt.of d sc_l_names (fun vs H Q E h=>?_) (fun f cdv A outer s H vs Q E hr h=>?_)
  · obtain ⟨a,ns,m,rfl,_⟩:=h
    rfl
  obtain ⟨a,ns,m,rfl,hS,m0,m1,q⟩:=h
  refine ⟨_,(pss_cons (ps_set (i:=2) sc_l_names.nd rfl (by walk_at "l") (pe_callF h_l_mixed (hr.mono (by decide)) rfl (pa_cons (pe_callF h_l_cell_at (hr.mono (by decide)) rfl (pa_cons (pv 0) (pa_cons pe_int pa_nil))) (pa_cons pe_int pa_nil))))
      (pss_cons (ps_set (i:=3) sc_l_names.nd rfl (by walk_at "l") (pe_op op_add pe_int (pe_op op_mod (pv 2) (pv 1))))
      (pss_cons (ps_set (i:=4) sc_l_names.nd rfl (by walk_at "l") (pe_lst pa_nil))
      (pss_cons (ps_for PassesOwn.never rfl (pi_range1 rfl B.range (pa_cons pe_int pa_nil)) (pg_name (i:=5) sc_l_names.nd rfl (by walk_at "l")) (pss_cons (ps_set (i:=6) sc_l_names.nd rfl (by walk_at "l") pe_str)
      (pss_cons (ps_for PassesOwn.never rfl (pi_range1 rfl B.range (pa_cons (pv 3) pa_nil)) (pg_name (i:=7) sc_l_names.nd rfl (by walk_at "l")) (pss_cons (ps_set (i:=8) sc_l_names.nd rfl (by walk_at "l") (pe_op op_add (pe_op op_add (pe_op op_fdiv (pv 2) (pe_op op_add (pv 7) pe_int)) (pe_op op_mul pe_int (pv 7))) (pe_op op_mul (pv 5) (pe_callTy call_int1 rfl B.int boot_int (pa_cons (pe_cmpR op_eq (pv 7) (pe_op op_mod (pe_op op_fdiv (pv 2) pe_int) (pv 3)) (nomark _)) pa_nil)))))
      (pss_one (ps_set (i:=6) sc_l_names.nd rfl (by walk_at "l") (pe_op op_add_str (pv 6) (pe_ix ix_str pe_str (pe_op op_mod (pv 8) pe_int) (fun _ _=>rfl)))))))
      (pss_one (ps_expr (pe_bmK K PySem.F.plainAttrs_list PySem.F.slot_list_append PySem.F.type_list_append mt_append (pv 4) (pa_cons (pe_callF h_l_name_of (hr.mono (by decide)) rfl (pa_cons (pv 6) pa_nil)) pa_nil)))))))
      (pss_one (ps_ret (pv 4))))))),?_⟩
  walk_at "vc"
  refine ⟨a,ns,0,rfl,hS,⟨_,_,rfl,?_⟩⟩
  refine ⟨_,rfl,m0,by decide,fun p hp=>?_⟩
  generalize ex:mixI (ns.getD 0 0) 0=x
  have es:(1:Int)+x%m=(nmsX x m:Int):=by
    have:=Int.emod_nonneg x (b:=m) (by omega)
    unfold nmsX
    omega
  have hz:nmsX x m≤8:=by
    have:=Int.emod_lt_of_pos x (b:=m) m0
    have:=Int.emod_nonneg x (b:=m) (by omega)
    unfold nmsX
    omega
  have hz1:1≤nmsX x m:=by unfold nmsX;omega
  rw [es]
  generalize ez:nmsX x m=size at hz hz1
  refine loopR (NmI a p m x size H) ⟨⟨_,_,_,_,rfl⟩,Same.new hp,upd_same⟩ ?_ ?_
  · rintro k σ H1 hk ⟨⟨v5,v6,v7,v8,rfl⟩,sm,hp1⟩
    walk_at "vc"
    refine ⟨by omega,by omega,?_⟩
    rw [Int.toNat_natCast]
    refine loopR (LwI a p m x size k H1) ⟨⟨_,_,rfl⟩,rfl⟩ ?_ ?_
    · rintro j σ H2 hj ⟨⟨v7,v8,rfl⟩,rfl⟩
      walk_at "vc"
      have ak:∃ c,atI letS.cps.toList (lwJ x size k j)=some c:=atI_in (Int.emod_nonneg _ (by decide)) (by rw [let26];exact Int.emod_lt_of_pos _ (by decide))
      obtain ⟨c,hc⟩:=ak
      have l1:(⟨#[c]⟩:Str).length=1:=rfl
      refine ⟨⟨by omega,by omega⟩,by omega,.inl ⟨by omega,by omega⟩,by decide +kernel,c,hc,small5 (by rw [l1,lwS_len];omega),?_⟩
      rw [show lwS x size k j++⟨#[c]⟩=lwS x size k (j+1) by show _=_++sgS _;unfold sgS;rw [hc];rfl]
      exact ⟨⟨_,_,rfl⟩,rfl⟩
    · rintro σ H2 ⟨⟨v7,v8,rfl⟩,rfl⟩
      walk_at "vc"
      refine ⟨⟨_,SqL.of hp1⟩,_,rfl,by rw [lwS_len];omega,fun H3 s3=>⟨_,s3 _ _ hp1,small5 (by rw [List.length_map,List.length_range];omega),⟨⟨_,_,_,_,rfl⟩,(sm.trans s3).put hp,?_⟩⟩⟩
      rw [upd_same,List.range_succ,List.map_append]
      rfl
  · rintro σ H1 ⟨⟨v5,v6,v7,v8,rfl⟩,sm,hp1⟩
    walk_at "vc"
    refine q _ _ sm ?_
    unfold nms
    rw [ex,ez,List.map_map]
    exact hp1
end
mutual
inductive T where
  | ev | no | inn (x:Str) (lo hi:Int) | opp (t:T) | al (ts:Ts) | on (ts:Ts)
inductive Ts where
  | nil | cons (t:T) (r:Ts)
end
mutual
def T.dep:T→Nat
  | .opp t=>t.dep+1
  | .al ts=>ts.dep+1
  | .on ts=>ts.dep+1
  | _=>0
def Ts.dep:Ts→Nat
  | .nil=>0
  | .cons t r=>Nat.max t.dep r.dep
end
def Ts.toL:Ts→List T
  | .nil=>[]
  | .cons t r=>t::r.toL
mutual
def T.ok (N:List Str):T→Prop
  | .inn x _ _=>x∈N
  | .opp t=>t.ok N
  | .al ts=>ts.toL.length≤1000∧ts.ok N
  | .on ts=>ts.toL.length≤1000∧ts.ok N
  | _=>True
def Ts.ok (N:List Str):Ts→Prop
  | .nil=>True
  | .cons t r=>t.ok N∧r.ok N
end
mutual
def TrAt (K:PySem.W.Frag)(H:Hp):T→V→Prop
  | .ev,v=>∃ p,v=.ref p∧SqT K H p [.str (Str.ofString "all")]
  | .no,v=>∃ p,v=.ref p∧SqT K H p [.str (Str.ofString "none")]
  | .inn x lo hi,v=>∃ p,v=.ref p∧SqT K H p [.str (Str.ofString "in"),.str x,.int lo,.int hi]
  | .opp t,v=>∃ p u,v=.ref p∧SqT K H p [.str (Str.ofString "not"),u]∧TrAt K H t u
  | .al ts,v=>∃ p l us,v=.ref p∧SqT K H p [.str (Str.ofString "and"),.ref l]∧SqL K H l us∧TrsAt K H ts us
  | .on ts,v=>∃ p l us,v=.ref p∧SqT K H p [.str (Str.ofString "or"),.ref l]∧SqL K H l us∧TrsAt K H ts us
def TrsAt (K:PySem.W.Frag)(H:Hp):Ts→List V→Prop
  | .nil,us=>us=[]
  | .cons t r,us=>∃ u vs,us=u::vs∧TrAt K H t u∧TrsAt K H r vs
end
theorem sqT_same {K:PySem.W.Frag}{H H':Hp}{a:Addr}{xs:List V}(e:Same H H')(h:SqT K H a xs):SqT K H' a xs:=by
  rcases h with (h | ⟨o,h⟩) | h
  · exact .inl (.inl (e _ _ h))
  · exact .inl (.inr ⟨o,e _ _ h⟩)
  · exact .inr h
mutual
theorem TrAt.same {K:PySem.W.Frag}{H H':Hp}(e:Same H H'):∀ (t:T) {v:V},TrAt K H t v→TrAt K H' t v
  | .ev,_,h=>by
    unfold TrAt at h ⊢
    obtain ⟨p,q,r⟩:=h
    exact ⟨p,q,sqT_same e r⟩
  | .no,_,h=>by
    unfold TrAt at h ⊢
    obtain ⟨p,q,r⟩:=h
    exact ⟨p,q,sqT_same e r⟩
  | .inn _ _ _,_,h=>by
    unfold TrAt at h ⊢
    obtain ⟨p,q,r⟩:=h
    exact ⟨p,q,sqT_same e r⟩
  | .opp t,_,h=>by
    unfold TrAt at h ⊢
    obtain ⟨p,u,q,r,z⟩:=h
    exact ⟨p,u,q,sqT_same e r,TrAt.same e t z⟩
  | .al ts,_,h=>by
    unfold TrAt at h ⊢
    obtain ⟨p,l,us,q,r,s,z⟩:=h
    exact ⟨p,l,us,q,sqT_same e r,e.seq s,TrsAt.same e ts z⟩
  | .on ts,_,h=>by
    unfold TrAt at h ⊢
    obtain ⟨p,l,us,q,r,s,z⟩:=h
    exact ⟨p,l,us,q,sqT_same e r,e.seq s,TrsAt.same e ts z⟩
theorem TrsAt.same {K:PySem.W.Frag}{H H':Hp}(e:Same H H'):∀ (ts:Ts) {us:List V},TrsAt K H ts us→TrsAt K H' ts us
  | .nil,_,h=>by
    unfold TrsAt at h ⊢
    exact h
  | .cons t r,_,h=>by
    unfold TrsAt at h ⊢
    obtain ⟨u,vs,q,a,b⟩:=h
    exact ⟨u,vs,q,TrAt.same e t a,TrsAt.same e r b⟩
end
theorem seq_step {t u:TS}{D:Ends}{σ:L2.St}{H:Hp}(h:∀ k:L2.St→Hp→Prop,(∀ σ' H',u D σ' H'→k σ' H')→t { D with nx:=k } σ H):tSeq t u D σ H:=h (u D) fun _ _ x=>x
mutual
def T.nums:T→List Int
  | .inn _ lo hi=>[lo,hi]
  | .opp t=>t.nums
  | .al ts=>ts.nums
  | .on ts=>ts.nums
  | _=>[]
def Ts.nums:Ts→List Int
  | .nil=>[]
  | .cons t r=>t.nums++r.nums
end
def spLeaf (K:PySem.W.Frag):Sp:=fun vs H Q _=>∃ (c:Int) (a:Addr) (N:List Str) (b:Bool),vs=[.int c,.ref a,.bl b]∧SqL K H a (N.map V.str)∧N.length=3∧∀ t v H',Same H H'→TrAt K (New H H') t v→t.dep≤1→t.ok N→t.nums.length≤2→Q v H'
section
variable {P:Program}{w:World}{K:PySem.W.Frag}{mg:Str→Option Value}{base:Heap}
theorem ok_leaf (B:Blt mg) (h_l_mixed:FnAt P w K mg base "_law_mixed" ["_law_cell","_law_k"] 1 spMixed) (d:DefAt K mg "_law_leaf" s_l_leaf ["_law_cell","_law_names_here","_law_wide"]):FnAt P w K mg base "_law_leaf" ["_law_cell","_law_names_here","_law_wide"] 2 (spLeaf K):=by
  refine FnAt.of d sc_l_leaf (fun vs H Q E h=>?_) (fun f cdv A outer s H vs Q E hr h=>?_)
  · obtain ⟨c,a,N,b,rfl,_⟩:=h
    rfl
  obtain ⟨c,a,N,b,rfl,hS,hN,q⟩:=h
  refine ⟨_,(pss_cons (ps_set (i:=3) sc_l_leaf.nd rfl (by walk_at "l") (pe_callF h_l_mixed (hr.mono (by decide)) rfl (pa_cons (pv 0) (pa_cons pe_int pa_nil))))
      (pss_cons (ps_set (i:=4) sc_l_leaf.nd rfl (by walk_at "l") (pe_callF h_l_mixed (hr.mono (by decide)) rfl (pa_cons (pv 0) (pa_cons pe_int pa_nil))))
      (pss_cons (ps_if (pt_cmpR op_lt (pe_op op_mod (pv 3) pe_int) pe_int (nomark _)) (pss_one (ps_ret (pe_tup (pa_cons (pe_ix (ix_listK K) (pe_lst (pa_cons pe_str (pa_cons pe_str pa_nil))) (pe_op op_mod (pv 3) pe_int) (fun _ _=>rfl)) pa_nil)))) pss_nil)
      (pss_cons (ps_set (i:=5) sc_l_leaf.nd rfl (by walk_at "l") (pe_op op_mod (pe_op op_fdiv (pv 3) pe_int) pe_int))
      (pss_cons (ps_set (i:=6) sc_l_leaf.nd rfl (by walk_at "l") (pe_op op_sub (pe_op op_add (pv 5) (pe_op op_mod (pv 4) pe_int)) pe_int))
      (pss_cons (ps_if (pt_val (pv 2)) (pss_cons (ps_set (i:=5) sc_l_leaf.nd rfl (by walk_at "l") (pe_op op_sub (pe_op op_add (pe_op op_mul (pv 5) (pe_op op_pow pe_int pe_int)) (pv 4)) (pe_op op_pow pe_int pe_int)))
      (pss_one (ps_set (i:=6) sc_l_leaf.nd rfl (by walk_at "l") (pe_op op_sub (pe_op op_add (pv 5) (pe_op op_mul (pe_callF h_l_mixed (hr.mono (by decide)) rfl (pa_cons (pv 0) (pa_cons pe_int pa_nil))) (pe_op op_pow pe_int pe_int))) pe_int)))) pss_nil)
      (pss_cons (ps_set (i:=7) sc_l_leaf.nd rfl (by walk_at "l") (pe_tup (pa_cons pe_str (pa_cons (pe_ix (ix_listK K) (pv 1) (pe_op op_mod (pe_op op_fdiv (pv 4) pe_int) pe_int) (fun _ _=>rfl)) (pa_cons (pv 5) (pa_cons (pv 6) pa_nil))))))
      (pss_cons (ps_if (pt_cmpR op_eq (pe_op op_mod (pv 3) pe_int) pe_int (nomark _)) (pss_one (ps_ret (pe_tup (pa_cons (pe_ix (ix_listK K) (pe_lst (pa_cons pe_str (pa_cons pe_str pa_nil))) (pe_op op_mod (pe_op op_fdiv (pv 3) pe_int) pe_int) (fun _ _=>rfl)) (pa_cons (pe_lst pa_nil) pa_nil))))) pss_nil)
      (pss_cons (ps_if (pt_cmpR op_eq (pe_op op_mod (pv 3) pe_int) pe_int (nomark _)) (pss_one (ps_ret (pe_tup (pa_cons (pe_ix (ix_listK K) (pe_lst (pa_cons pe_str (pa_cons pe_str pa_nil))) (pe_op op_mod (pe_op op_fdiv (pv 3) pe_int) pe_int) (fun _ _=>rfl)) (pa_cons (pe_lst (pa_cons (pv 7) pa_nil)) pa_nil))))) pss_nil)
      (pss_one (ps_ret (pv 7)))))))))))),?_⟩
  refine seq_step fun k hk=>?_
  walk_at "vc"
  refine ⟨_,_,rfl,hk _ _ (seq_step fun k hk=>?_)⟩
  walk_at "vc"
  refine ⟨_,_,rfl,hk _ _ (seq_step fun k hk=>?_)⟩
  walk_at "vc"
  by_cases c1:mixI c 2%12<2
  · rw [if_pos c1]
    refine ⟨by decide,fun p hp=>⟨_,SqL.of upd_same,?_⟩⟩
    have c0:=Int.emod_nonneg (mixI c 2) (b:=12) (by decide)
    generalize mixI c 2%12=z at c0 c1
    have zz:z=0∨z=1:=by omega
    rcases zz with rfl | rfl
    · exact ⟨_,rfl,by decide,fun p1 hp1=>q .ev _ _ ((Same.new hp).trans (Same.new hp1)) ⟨p1,rfl,.inl (.inl (New.of ((Same.new hp).free hp1) upd_same))⟩ (by decide) trivial (Nat.zero_le 2)⟩
    · exact ⟨_,rfl,by decide,fun p1 hp1=>q .no _ _ ((Same.new hp).trans (Same.new hp1)) ⟨p1,rfl,.inl (.inl (New.of ((Same.new hp).free hp1) upd_same))⟩ (by decide) trivial (Nat.zero_le 2)⟩
  rw [if_neg c1]
  refine hk _ _ (seq_step fun k hk=>?_)
  walk_at "vc"
  refine hk _ _ (seq_step fun k hk=>?_)
  walk_at "vc"
  refine hk _ _ (seq_step fun k hk=>?_)
  have go:∀ lo hi:Int,k [some (.int c),some (.ref a),some (.bl b),some (.int (mixI c 2)),some (.int (mixI c 3)),some (.int lo),some (.int hi),none] H:=fun lo hi=>by
    refine hk _ _ (seq_step fun k hk=>?_)
    walk_at "vc"
    obtain ⟨j,hj,ej⟩:∃ j:Nat,j<3∧mixI c 3/30%3=(j:Int):=⟨(mixI c 3/30%3).toNat,by omega,by omega⟩
    obtain ⟨x,hx⟩:∃ x,N[j]?=some x:=⟨_,List.getElem?_eq_getElem (by omega)⟩
    have mem:x∈N:=List.mem_of_getElem? hx
    refine ⟨_,hS,_,by rw [ej];exact atI_nat (by rw [List.getElem?_map,hx];rfl),by decide,fun p hp=>hk _ _ (seq_step fun k hk=>?_)⟩
    have sm:=Same.new (o:=.tup [.str (Str.ofString "in"),.str x,.int lo,.int hi]) hp
    have lf:TrAt K (New H (upd H p (.tup [.str (Str.ofString "in"),.str x,.int lo,.int hi]))) (.inn x lo hi) (.ref p):=⟨p,rfl,.inl (.inl (New.of hp upd_same))⟩
    generalize upd H p (.tup [.str (Str.ofString "in"),.str x,.int lo,.int hi])=H1 at sm lf ⊢
    have tw:mixI c 2/480%2=0∨mixI c 2/480%2=1:=by omega
    walk_at "vc"
    by_cases c2:mixI c 2%12=2
    · rw [if_pos c2]
      refine ⟨by decide,fun p1 h1=>⟨_,SqL.of upd_same,?_⟩⟩
      have s1:=Same.new (o:=.lst [.str (Str.ofString "and"),.str (Str.ofString "or")]) h1
      rcases tw with e | e
      · rw [e]
        refine ⟨_,rfl,by decide,fun p2 h2=>⟨by decide,fun p3 h3=>?_⟩⟩
        have s3:=Same.new (o:=.tup [.str (Str.ofString "and"),.ref p2]) h3
        exact q (.al .nil) _ _ (((sm.trans s1).trans (Same.new h2)).trans s3) ⟨p3,p2,[],rfl,.inl (.inl (New.of (((sm.trans s1).trans (Same.new h2)).free h3) upd_same)),SqL.of (New.of ((sm.trans s1).free h2) (s3 _ _ upd_same)),rfl⟩ (by decide) ⟨by decide,trivial⟩ (Nat.zero_le 2)
      · rw [e]
        refine ⟨_,rfl,by decide,fun p2 h2=>⟨by decide,fun p3 h3=>?_⟩⟩
        have s3:=Same.new (o:=.tup [.str (Str.ofString "or"),.ref p2]) h3
        exact q (.on .nil) _ _ (((sm.trans s1).trans (Same.new h2)).trans s3) ⟨p3,p2,[],rfl,.inl (.inl (New.of (((sm.trans s1).trans (Same.new h2)).free h3) upd_same)),SqL.of (New.of ((sm.trans s1).free h2) (s3 _ _ upd_same)),rfl⟩ (by decide) ⟨by decide,trivial⟩ (Nat.zero_le 2)
    rw [if_neg c2]
    refine hk _ _ (seq_step fun k hk=>?_)
    walk_at "vc"
    by_cases c3:mixI c 2%12=3
    · rw [if_pos c3]
      refine ⟨by decide,fun p1 h1=>⟨_,SqL.of upd_same,?_⟩⟩
      have s1:=Same.new (o:=.lst [.str (Str.ofString "and"),.str (Str.ofString "or")]) h1
      rcases tw with e | e
      · rw [e]
        refine ⟨_,rfl,by decide,fun p2 h2=>⟨by decide,fun p3 h3=>?_⟩⟩
        have s3:=Same.new (o:=.tup [.str (Str.ofString "and"),.ref p2]) h3
        exact q (.al (.cons (.inn x lo hi) .nil)) _ _ (((sm.trans s1).trans (Same.new h2)).trans s3) ⟨p3,p2,[.ref p],rfl,.inl (.inl (New.of (((sm.trans s1).trans (Same.new h2)).free h3) upd_same)),SqL.of (New.of ((sm.trans s1).free h2) (s3 _ _ upd_same)),⟨_,_,rfl,TrAt.same (New.same ((s1.trans (Same.new h2)).trans s3)) _ lf,rfl⟩⟩ (Nat.le_refl 1) ⟨Nat.le_of_ble_eq_true rfl,mem,trivial⟩ (Nat.le_refl 2)
      · rw [e]
        refine ⟨_,rfl,by decide,fun p2 h2=>⟨by decide,fun p3 h3=>?_⟩⟩
        have s3:=Same.new (o:=.tup [.str (Str.ofString "or"),.ref p2]) h3
        exact q (.on (.cons (.inn x lo hi) .nil)) _ _ (((sm.trans s1).trans (Same.new h2)).trans s3) ⟨p3,p2,[.ref p],rfl,.inl (.inl (New.of (((sm.trans s1).trans (Same.new h2)).free h3) upd_same)),SqL.of (New.of ((sm.trans s1).free h2) (s3 _ _ upd_same)),⟨_,_,rfl,TrAt.same (New.same ((s1.trans (Same.new h2)).trans s3)) _ lf,rfl⟩⟩ (Nat.le_refl 1) ⟨Nat.le_of_ble_eq_true rfl,mem,trivial⟩ (Nat.le_refl 2)
    rw [if_neg c3]
    refine hk _ _ ?_
    walk_at "vc"
    exact q _ _ _ sm lf (Nat.zero_le 1) mem (Nat.le_refl 2)
  walk_at "vc"
  split
  · exact ⟨by decide,⟨by omega,by omega⟩,by decide,c,4,rfl,by decide,_,rfl,go _ _⟩
  · exact go _ _
end
theorem TrsAt.len {K:PySem.W.Frag}{H:Hp}:∀ (ts:Ts) {us:List V},TrsAt K H ts us→us.length=ts.toL.length
  | .nil,us,h=>by
    unfold TrsAt at h
    rw [h]
    rfl
  | .cons t r,us,h=>by
    unfold TrsAt at h
    obtain ⟨u,vs,rfl,a,b⟩:=h
    show vs.length+1=r.toL.length+1
    rw [TrsAt.len r b]
theorem TrsAt.at {K:PySem.W.Frag}{H:Hp}:∀ (ts:Ts) {us:List V} {i:Nat} {u:V},TrsAt K H ts us→us[i]?=some u→∃ t,ts.toL[i]?=some t∧TrAt K H t u
  | .nil,us,i,u,h,e=>by
    unfold TrsAt at h
    rw [h] at e
    cases e
  | .cons t r,us,i,u,h,e=>by
    unfold TrsAt at h
    obtain ⟨u',vs,rfl,a,b⟩:=h
    cases i with
    | zero =>
      cases e
      exact ⟨t,rfl,a⟩
    | succ i=>exact TrsAt.at r b e
theorem Ts.dep_le:∀ (ts:Ts) {t:T},t∈ts.toL→t.dep≤ts.dep
  | .nil,_,h=>by cases h
  | .cons t r,x,h=>by
    show x.dep≤Nat.max t.dep r.dep
    rcases List.mem_cons.mp h with rfl | h
    · exact Nat.le_max_left _ _
    · exact Nat.le_trans (Ts.dep_le r h) (Nat.le_max_right _ _)
theorem Ts.nums_eq:∀ ts:Ts,ts.nums=ts.toL.flatMap T.nums
  | .nil=>rfl
  | .cons t r=>by
    show t.nums++r.nums=t.nums++r.toL.flatMap T.nums
    rw [Ts.nums_eq r]
def fstN (ts:Ts)(i:Nat):List Int:=(ts.toL.take i).flatMap T.nums
theorem fstN_step {ts:Ts}{i:Nat}{t:T}(h:ts.toL[i]?=some t):fstN ts (i+1)=fstN ts i++t.nums:=by
  unfold fstN
  rw [List.take_add_one,h,List.flatMap_append]
  simp
theorem fstN_le (ts:Ts)(i:Nat):(fstN ts i).length≤ts.nums.length:=by
  have:=congrArg List.length (congrArg (List.flatMap T.nums) (List.take_append_drop i ts.toL))
  rw [List.flatMap_append,List.length_append,← Ts.nums_eq] at this
  unfold fstN
  omega
theorem fstN_all (ts:Ts):fstN ts ts.toL.length=ts.nums:=by
  unfold fstN
  rw [List.take_length,Ts.nums_eq]
structure NuI (ts:Ts)(v:V)(H:Hp)(i:Nat)(σ:L2.St)(H':Hp):Prop where
  ex:∃ p v2,σ=[some v,some (.ref p),v2]∧H' p=some (.lst ((fstN ts i).map V.int))
  sm:Same H H'
def spNums (K:PySem.W.Frag)(n:Nat):Sp:=fun vs H Q _=>∃ (t:T) (v:V),vs=[v]∧TrAt K H t v∧t.dep<n∧t.nums.length≤10000∧∀ p H',Same H H'→H' p=some (.lst (t.nums.map V.int))→Q (.ref p) H'
section
variable {P:Program}{w:World}{K:PySem.W.Frag}{mg:Str→Option Value}{base:Heap}
theorem ok_nums (B:Blt mg)(d:DefAt K mg "_law_numbers_in" s_l_numbers_in ["_law_tree"]):∀ n,FnAt P w K mg base "_law_numbers_in" ["_law_tree"] (n+1) (spNums K n):=by
  intro n
  induction n with
  | zero=>exact FnAt.of d sc_l_numbers_in (fun vs H Q E h=>by obtain ⟨t,v,rfl,_⟩:=h;rfl) (fun f cdv A outer s H vs Q E hr h=>by obtain ⟨t,v,rfl,_,h,_⟩:=h;omega)
  | succ n h_l_numbers_in =>
    refine FnAt.of d sc_l_numbers_in (fun vs H Q E h=>?_) (fun f cdv A outer s H vs Q E hr h=>?_)
    · obtain ⟨t,v,rfl,_⟩:=h
      rfl
    obtain ⟨t,v,rfl,ht,hd,hl,q⟩:=h
    refine ⟨_,(pss_cons (ps_if (pt_cmpR op_eq (pe_ix (ix_tupK K) (pv 0) pe_int (fun _ _=>rfl)) pe_str (nomark _)) (pss_one (ps_ret (pe_lst (pa_cons (pe_ix (ix_tupK K) (pv 0) pe_int (fun _ _=>rfl)) (pa_cons (pe_ix (ix_tupK K) (pv 0) pe_int (fun _ _=>rfl)) pa_nil))))) pss_nil)
      (pss_cons (ps_if (pt_cmpR op_eq (pe_ix (ix_tupK K) (pv 0) pe_int (fun _ _=>rfl)) pe_str (nomark _)) (pss_one (ps_ret (pe_callF h_l_numbers_in (hr.mono (by omega)) rfl (pa_cons (pe_ix (ix_tupK K) (pv 0) pe_int (fun _ _=>rfl)) pa_nil)))) pss_nil)
      (pss_cons (ps_set (i:=1) sc_l_numbers_in.nd rfl (by walk_at "l") (pe_lst pa_nil))
      (pss_cons (ps_if (PW.pt (pw_or (pt_cmpR op_eq (pe_ix (ix_tupK K) (pv 0) pe_int (fun _ _=>rfl)) pe_str (nomark _)) (pw_or1 (pt_cmpR op_eq (pe_ix (ix_tupK K) (pv 0) pe_int (fun _ _=>rfl)) pe_str (nomark _))))) (pss_one (ps_for PassesOwn.never rfl (pi_listK K (pe_ix (ix_tupK K) (pv 0) pe_int (fun _ _=>rfl))) (pg_name (i:=2) sc_l_numbers_in.nd rfl (by walk_at "l")) (pss_one (ps_set (i:=1) sc_l_numbers_in.nd rfl (by walk_at "l") (pe_op op_cat (pv 1) (pe_callF h_l_numbers_in (hr.mono (by omega)) rfl (pa_cons (pv 2) pa_nil))))))) pss_nil)
      (pss_one (ps_ret (pv 1))))))),?_⟩
    cases t with
    | ev =>
      obtain ⟨p,rfl,hp⟩:=ht
      walk_at "vc"
      refine ⟨_,hp,_,rfl,rfl,?_⟩
      rw [if_neg (by decide +kernel)]
      refine ⟨_,hp,_,rfl,rfl,?_⟩
      rw [if_neg (by decide +kernel)]
      refine ⟨by decide,fun p1 h1=>⟨_,sqT_same (Same.new h1) hp,_,rfl,rfl,?_⟩⟩
      rw [if_neg (by decide +kernel)]
      refine ⟨_,sqT_same (Same.new h1) hp,_,rfl,rfl,?_⟩
      rw [if_neg (by decide +kernel)]
      exact q _ _ (Same.new h1) upd_same
    | no =>
      obtain ⟨p,rfl,hp⟩:=ht
      walk_at "vc"
      refine ⟨_,hp,_,rfl,rfl,?_⟩
      rw [if_neg (by decide +kernel)]
      refine ⟨_,hp,_,rfl,rfl,?_⟩
      rw [if_neg (by decide +kernel)]
      refine ⟨by decide,fun p1 h1=>⟨_,sqT_same (Same.new h1) hp,_,rfl,rfl,?_⟩⟩
      rw [if_neg (by decide +kernel)]
      refine ⟨_,sqT_same (Same.new h1) hp,_,rfl,rfl,?_⟩
      rw [if_neg (by decide +kernel)]
      exact q _ _ (Same.new h1) upd_same
    | inn x lo hi =>
      obtain ⟨p,rfl,hp⟩:=ht
      walk_at "vc"
      refine ⟨_,hp,_,rfl,rfl,?_⟩
      rw [if_pos rfl]
      exact ⟨_,hp,_,rfl,_,hp,_,rfl,by decide,fun p1 h1=>q _ _ (Same.new h1) upd_same⟩
    | opp t =>
      obtain ⟨p,u,rfl,hp,hu⟩:=ht
      walk_at "vc"
      refine ⟨_,hp,_,rfl,rfl,?_⟩
      rw [if_neg (by decide +kernel)]
      refine ⟨_,hp,_,rfl,rfl,?_⟩
      rw [if_pos rfl]
      exact ⟨_,hp,_,rfl,t,u,rfl,hu,Nat.lt_of_succ_lt_succ hd,hl,q⟩
    | al ts =>
      obtain ⟨p,l,us,rfl,hp,hl',hu⟩:=ht
      have hd:ts.dep<n:=Nat.lt_of_succ_lt_succ hd
      walk_at "vc"
      refine ⟨_,hp,_,rfl,rfl,?_⟩
      rw [if_neg (by decide +kernel)]
      refine ⟨_,hp,_,rfl,rfl,?_⟩
      rw [if_neg (by decide +kernel)]
      refine ⟨by decide,fun p1 h1=>?_⟩
      have s1:=Same.new (o:=.lst []) h1
      refine ⟨_,sqT_same s1 hp,_,rfl,rfl,?_⟩
      rw [if_pos rfl]
      have ln:=hu.len
      refine ⟨_,sqT_same s1 hp,_,rfl,l,rfl,⟨_,s1.seq hl'⟩,loopL (K:=K) (xs:=us) (NuI ts (.ref p) H) ⟨⟨_,_,rfl,upd_same⟩,s1⟩ (fun i σ H' _ h=>h.sm.seq hl') ?_ ?_⟩
      · rintro i u σ H2 hu2 ⟨⟨p2,v2,rfl,h2⟩,s2⟩
        walk_at "vc"
        obtain ⟨t,ht,htr⟩:=hu.at _ hu2
        have a1:=fstN_step ht
        have a2:=fstN_le ts (i+1)
        rw [a1,List.length_append] at a2
        have hl:ts.nums.length≤10000:=hl
        refine ⟨t,u,rfl,TrAt.same s2 _ htr,Nat.lt_of_le_of_lt (Ts.dep_le ts (List.mem_of_getElem? ht)) hd,by omega,fun p3 H3 s3 h3=>?_⟩
        refine ⟨_,rfl,_,s3 _ _ h2,_,h3,small5 (by rw [List.length_map,List.length_map];omega),fun p4 h4=>⟨⟨p4,_,rfl,?_⟩,(s2.trans s3).trans (Same.new h4)⟩⟩
        rw [upd_same,a1,List.map_append]
      · rintro σ H2 ⟨⟨p2,v2,rfl,h2⟩,s2⟩
        walk_at "vc"
        rw [ln,fstN_all] at h2
        exact q _ _ s2 h2
    | on ts =>
      obtain ⟨p,l,us,rfl,hp,hl',hu⟩:=ht
      have hd:ts.dep<n:=Nat.lt_of_succ_lt_succ hd
      walk_at "vc"
      refine ⟨_,hp,_,rfl,rfl,?_⟩
      rw [if_neg (by decide +kernel)]
      refine ⟨_,hp,_,rfl,rfl,?_⟩
      rw [if_neg (by decide +kernel)]
      refine ⟨by decide,fun p1 h1=>?_⟩
      have s1:=Same.new (o:=.lst []) h1
      refine ⟨_,sqT_same s1 hp,_,rfl,rfl,?_⟩
      rw [if_neg (by decide +kernel)]
      refine ⟨_,sqT_same s1 hp,_,rfl,rfl,?_⟩
      rw [if_pos rfl]
      have ln:=hu.len
      refine ⟨_,sqT_same s1 hp,_,rfl,l,rfl,⟨_,s1.seq hl'⟩,loopL (K:=K) (xs:=us) (NuI ts (.ref p) H) ⟨⟨_,_,rfl,upd_same⟩,s1⟩ (fun i σ H' _ h=>h.sm.seq hl') ?_ ?_⟩
      · rintro i u σ H2 hu2 ⟨⟨p2,v2,rfl,h2⟩,s2⟩
        walk_at "vc"
        obtain ⟨t,ht,htr⟩:=hu.at _ hu2
        have a1:=fstN_step ht
        have a2:=fstN_le ts (i+1)
        rw [a1,List.length_append] at a2
        have hl:ts.nums.length≤10000:=hl
        refine ⟨t,u,rfl,TrAt.same s2 _ htr,Nat.lt_of_le_of_lt (Ts.dep_le ts (List.mem_of_getElem? ht)) hd,by omega,fun p3 H3 s3 h3=>?_⟩
        refine ⟨_,rfl,_,s3 _ _ h2,_,h3,small5 (by rw [List.length_map,List.length_map];omega),fun p4 h4=>⟨⟨p4,_,rfl,?_⟩,(s2.trans s3).trans (Same.new h4)⟩⟩
        rw [upd_same,a1,List.map_append]
      · rintro σ H2 ⟨⟨p2,v2,rfl,h2⟩,s2⟩
        walk_at "vc"
        rw [ln,fstN_all] at h2
        exact q _ _ s2 h2
end
inductive Kd where | ev | no | wi | op | al | on
def T.kd:T→Kd
  | .ev=>.ev
  | .no=>.no
  | .inn _ _ _=>.wi
  | .opp _=>.op
  | .al _=>.al
  | .on _=>.on
mutual
def QAt (C:Kd→Addr)(H:Hp):T→V→Prop
  | .ev,v=>∃ p dx,v=.ref p∧H p=some (.ins (C .ev) dx [])
  | .no,v=>∃ p dx,v=.ref p∧H p=some (.ins (C .no) dx [])
  | .inn x lo hi,v=>∃ p dx,v=.ref p∧H p=some (.ins (C .wi) dx [("name",.str x),("low",.int lo),("high",.int hi)])
  | .opp t,v=>∃ p dx u,v=.ref p∧H p=some (.ins (C .op) dx [("one",u)])∧QAt C H t u
  | .al ts,v=>∃ p dx l us,v=.ref p∧H p=some (.ins (C .al) dx [("parts",.ref l)])∧H l=some (.lst us)∧QsAt C H ts us
  | .on ts,v=>∃ p dx l us,v=.ref p∧H p=some (.ins (C .on) dx [("parts",.ref l)])∧H l=some (.lst us)∧QsAt C H ts us
def QsAt (C:Kd→Addr)(H:Hp):Ts→List V→Prop
  | .nil,us=>us=[]
  | .cons t r,us=>∃ u vs,us=u::vs∧QAt C H t u∧QsAt C H r vs
end
mutual
theorem QAt.same {C:Kd→Addr}{H H':Hp}(e:Same H H'):∀ (t:T) {v:V},QAt C H t v→QAt C H' t v
  | .ev,_,h=>by
    unfold QAt at h ⊢
    obtain ⟨p,dx,q,r⟩:=h
    exact ⟨p,dx,q,e _ _ r⟩
  | .no,_,h=>by
    unfold QAt at h ⊢
    obtain ⟨p,dx,q,r⟩:=h
    exact ⟨p,dx,q,e _ _ r⟩
  | .inn _ _ _,_,h=>by
    unfold QAt at h ⊢
    obtain ⟨p,dx,q,r⟩:=h
    exact ⟨p,dx,q,e _ _ r⟩
  | .opp t,_,h=>by
    unfold QAt at h ⊢
    obtain ⟨p,dx,u,q,r,z⟩:=h
    exact ⟨p,dx,u,q,e _ _ r,QAt.same e t z⟩
  | .al ts,_,h=>by
    unfold QAt at h ⊢
    obtain ⟨p,dx,l,us,q,r,s,z⟩:=h
    exact ⟨p,dx,l,us,q,e _ _ r,e _ _ s,QsAt.same e ts z⟩
  | .on ts,_,h=>by
    unfold QAt at h ⊢
    obtain ⟨p,dx,l,us,q,r,s,z⟩:=h
    exact ⟨p,dx,l,us,q,e _ _ r,e _ _ s,QsAt.same e ts z⟩
theorem QsAt.same {C:Kd→Addr}{H H':Hp}(e:Same H H'):∀ (ts:Ts) {us:List V},QsAt C H ts us→QsAt C H' ts us
  | .nil,_,h=>by
    unfold QsAt at h ⊢
    exact h
  | .cons t r,_,h=>by
    unfold QsAt at h ⊢
    obtain ⟨u,vs,q,a,b⟩:=h
    exact ⟨u,vs,q,QAt.same e t a,QsAt.same e r b⟩
end
theorem QsAt.len {C:Kd→Addr}{H:Hp}:∀ (ts:Ts) {us:List V},QsAt C H ts us→us.length=ts.toL.length
  | .nil,us,h=>by
    unfold QsAt at h
    rw [h]
    rfl
  | .cons t r,us,h=>by
    unfold QsAt at h
    obtain ⟨u,vs,rfl,a,b⟩:=h
    show vs.length+1=r.toL.length+1
    rw [QsAt.len r b]
theorem QsAt.at {C:Kd→Addr}{H:Hp}:∀ (ts:Ts) {us:List V} {i:Nat} {u:V},QsAt C H ts us→us[i]?=some u→∃ t,ts.toL[i]?=some t∧QAt C H t u
  | .nil,us,i,u,h,e=>by
    unfold QsAt at h
    rw [h] at e
    cases e
  | .cons t r,us,i,u,h,e=>by
    unfold QsAt at h
    obtain ⟨u',vs,rfl,a,b⟩:=h
    cases i with
    | zero =>
      cases e
      exact ⟨t,rfl,a⟩
    | succ i=>exact QsAt.at r b e
theorem QsAt.mk {C:Kd→Addr}{H:Hp}:∀ (ts:Ts) {us:List V},us.length=ts.toL.length→(∀ (i:Nat) u t,us[i]?=some u→ts.toL[i]?=some t→QAt C H t u)→QsAt C H ts us
  | .nil,us,h,_=>by
    unfold QsAt
    exact List.length_eq_zero_iff.mp h
  | .cons t r,us,h,e=>by
    cases us with
    | nil=>cases h
    | cons u vs =>
      unfold QsAt
      exact ⟨u,vs,rfl,e 0 u t rfl rfl,QsAt.mk r (Nat.succ.inj h) fun i=>e (i+1)⟩
theorem QAt.obj {C:Kd→Addr}{H:Hp}:∀ (t:T) {v:V},QAt C H t v→∃ p dx fs,v=.ref p∧H p=some (.ins (C t.kd) dx fs)∧fs.lookup ("holds":Str)=none
  | .ev,_,h=>by
    unfold QAt at h
    obtain ⟨p,dx,q,r⟩:=h
    exact ⟨p,dx,_,q,r,rfl⟩
  | .no,_,h=>by
    unfold QAt at h
    obtain ⟨p,dx,q,r⟩:=h
    exact ⟨p,dx,_,q,r,rfl⟩
  | .inn _ _ _,_,h=>by
    unfold QAt at h
    obtain ⟨p,dx,q,r⟩:=h
    exact ⟨p,dx,_,q,r,rfl⟩
  | .opp t,_,h=>by
    unfold QAt at h
    obtain ⟨p,dx,u,q,r,_⟩:=h
    exact ⟨p,dx,_,q,r,rfl⟩
  | .al ts,_,h=>by
    unfold QAt at h
    obtain ⟨p,dx,l,us,q,r,_⟩:=h
    exact ⟨p,dx,_,q,r,rfl⟩
  | .on ts,_,h=>by
    unfold QAt at h
    obtain ⟨p,dx,l,us,q,r,_⟩:=h
    exact ⟨p,dx,_,q,r,rfl⟩
mutual
def T.hol (f:Str→Int):T→Bool
  | .ev=>true
  | .no=>false
  | .inn x lo hi=>decide (lo≤f x)&&decide (f x≤hi)
  | .opp t=>!t.hol f
  | .al ts=>(ts.hols f).all id
  | .on ts=>(ts.hols f).any id
def Ts.hols (f:Str→Int):Ts→List Bool
  | .nil=>[]
  | .cons t r=>t.hol f::r.hols f
end
theorem Ts.hols_eq (f:Str→Int):∀ ts:Ts,ts.hols f=ts.toL.map (T.hol f)
  | .nil=>rfl
  | .cons t r=>by
    show t.hol f::r.hols f=t.hol f::r.toL.map (T.hol f)
    rw [Ts.hols_eq f r]
theorem Ts.ok_mem {N:List Str}:∀ (ts:Ts) {t:T},ts.ok N→t∈ts.toL→t.ok N
  | .nil,_,_,h=>by cases h
  | .cons t r,x,o,h=>by
    unfold Ts.ok at o
    rcases List.mem_cons.mp h with rfl | h
    · exact o.1
    · exact Ts.ok_mem r o.2 h
def VOk (N:List Str)(kvs:List (Key × V))(f:Str→Int):Prop:=∀ x∈N,valV kvs (.inr x)=some (.int (f x))
def spHolds (C:Kd→Addr)(N:List Str)(n:Nat)(k:Kd):Sp:=fun vs H Q _=>∃ (t:T) (v:V) (d:Addr) (kvs:List (Key × V)) (f:Str→Int),vs=[v,.ref d]∧t.kd=k∧QAt C H t v∧t.ok N∧t.dep<n∧H d=some (.dK kvs)∧VOk N kvs f∧∀ H',Same H H'→Q (.bl (t.hol f)) H'
section
variable {P:Program}{w:World}{K:PySem.W.Frag}{mg:Str→Option Value}{base:Heap}{C:Kd→Addr}{N:List Str}{n:Nat}
theorem ok_h_ev (cd:CD_Every K mg (C .ev))(n:Nat):MethAt P w K mg base (C .ev) "holds" ["self","values"] (n+1) (spHolds C N n .ev):=by
  refine MethAt.of cd.c cd.m_holds sc_Every_holds (fun vs H Q E h=>?_) (fun f cdv A outer s H vs Q E hr h=>?_)
  · obtain ⟨t,v,d,kvs,f,rfl,_⟩:=h
    rfl
  obtain ⟨t,v,d,kvs,f,rfl,hk,hq,ok,hd,hv,vo,q⟩:=h
  refine ⟨_,(pss_one (ps_ret pe_bl)),?_⟩
  walk_at "vc"
  cases t<;>try cases hk
  exact q _ (Same.refl _)
theorem ok_h_no (cd:CD_Nobody K mg (C .no))(n:Nat):MethAt P w K mg base (C .no) "holds" ["self","values"] (n+1) (spHolds C N n .no):=by
  refine MethAt.of cd.c cd.m_holds sc_Nobody_holds (fun vs H Q E h=>?_) (fun f cdv A outer s H vs Q E hr h=>?_)
  · obtain ⟨t,v,d,kvs,f,rfl,_⟩:=h
    rfl
  obtain ⟨t,v,d,kvs,f,rfl,hk,hq,ok,hd,hv,vo,q⟩:=h
  refine ⟨_,(pss_one (ps_ret pe_bl)),?_⟩
  walk_at "vc"
  cases t<;>try cases hk
  exact q _ (Same.refl _)
theorem ok_h_wi (cd:CD_Within K mg (C .wi))(n:Nat):MethAt P w K mg base (C .wi) "holds" ["self","values"] (n+1) (spHolds C N n .wi):=by
  refine MethAt.of cd.c cd.m_holds sc_Within_holds (fun vs H Q E h=>?_) (fun f cdv A outer s H vs Q E hr h=>?_)
  · obtain ⟨t,v,d,kvs,f,rfl,_⟩:=h
    rfl
  obtain ⟨t,v,d,kvs,f,rfl,hk,hq,ok,hd,hv,vo,q⟩:=h
  refine ⟨_,(pss_one (ps_ret (pe_chain op_le op_le (pe_fldK K (pv 0)) (pe_dget (hu1 hr) (pv 1) (pe_fldK K (pv 0)) (fun _ _=>rfl)) (pe_fldK K (pv 0))))),?_⟩
  cases t with
  | inn x lo hi =>
    obtain ⟨p,dx,rfl,hp⟩:=hq
    walk_at "vc"
    refine ⟨_,_,_,hp,cd.c,cd.n_low,_,rfl,_,_,_,hp,cd.c,cd.n_name,_,rfl,_,.inl ⟨kvs,.inr x,.inl hv,rfl,(vo x ok).symm⟩,_,rfl,_,rfl,?_⟩
    have q:=q _ (Same.refl _)
    unfold T.hol at q
    split
    · rename_i c
      refine ⟨_,_,_,hp,cd.c,cd.n_high,_,rfl,_,rfl,_,rfl,?_⟩
      rw [decide_eq_true c] at q
      exact q
    · rename_i c
      rw [decide_eq_false c] at q
      exact q
  | _=>cases hk
variable (ih:∀ k,MethAt P w K mg base (C k) "holds" ["self","values"] (n+1) (spHolds C N n k))
include ih
theorem ok_h_op (cd:CD_Opposite K mg (C .op)):MethAt P w K mg base (C .op) "holds" ["self","values"] (n+2) (spHolds C N (n+1) .op):=by
  refine MethAt.of cd.c cd.m_holds sc_Opposite_holds (fun vs H Q E h=>?_) (fun f cdv A outer s H vs Q E hr h=>?_)
  · obtain ⟨t,v,d,kvs,f,rfl,_⟩:=h
    rfl
  obtain ⟨t,v,d,kvs,f,rfl,hk,hq,ok,hd,hv,vo,q⟩:=h
  refine ⟨_,(pss_one (ps_ret (pe_not (pe_meD (P:=P) (w:=w) (K:=K) (mg:=mg) (base:=base) (n+1) (hr.mono (by omega)) (pe_fldK K (pv 0)) (pa_cons (pv 1) pa_nil))))),?_⟩
  cases t with
  | opp t =>
    obtain ⟨p,dx,u,rfl,hp,hu⟩:=hq
    obtain ⟨p1,dx1,fs,rfl,h1,lk⟩:=QAt.obj t hu
    walk_at "vc"
    refine ⟨_,_,_,hp,cd.c,cd.n_one,_,rfl,p1,rfl,_,_,_,h1,lk,_,_,ih t.kd,t,_,d,kvs,f,rfl,rfl,hu,ok,Nat.lt_of_succ_lt_succ hd,hv,vo,fun H' s=>?_⟩
    exact ⟨_,rfl,q H' s⟩
  | _=>cases hk
theorem ok_h_al (B:Blt mg) (cd:CD_AllOf K mg (C .al)):MethAt P w K mg base (C .al) "holds" ["self","values"] (n+2) (spHolds C N (n+1) .al):=by
  refine MethAt.of cd.c cd.m_holds sc_AllOf_holds (fun vs H Q E h=>?_) (fun f cdv A outer s H vs Q E hr h=>?_)
  · obtain ⟨t,v,d,kvs,f,rfl,_⟩:=h
    rfl
  obtain ⟨t,v,d,kvs,f,rfl,hk,hq,ok,hd,hv,vo,q⟩:=h
  refine ⟨_,(pss_one (ps_ret (pe_callB (call_allK K) rfl B.all boot_allB (pa_cons (pe_comp ["part"] [1] rfl (pi_listK K (pe_fldK K (pv 0))) (fun _ _ _ _ _=>pg_name (i:=0) (by show List.Nodup (["part","values"]:List Str);decide +kernel) rfl (Or.inl rfl)) (fun _ _ _ _ _=>pts_nil) (fun _ _ _ _ _=>(pe_meD (P:=P) (w:=w) (K:=K) (mg:=mg) (base:=base) (n+1) (hr.mono (by omega)) (pv 0) (pa_cons (pv 1) pa_nil))) ⟨⟨_,rfl,rfl,.inl rfl⟩,trivial⟩ gOwn_name) pa_nil)))),?_⟩
  cases t with
  | al ts =>
    obtain ⟨p,dx,l,us,rfl,hp,hl,hu⟩:=hq
    have dp:ts.dep<n:=Nat.lt_of_succ_lt_succ hd
    have ln:=QsAt.len ts hu
    have l0:=ok.1
    walk_at "vc"
    refine ⟨_,_,_,hp,cd.c,cd.n_parts,_,rfl,l,rfl,⟨_,SqL.of hl⟩,compA (xs:=us) (fun i y _=>y=.bl ((ts.hols f).getD i false)) (fun _ _ _ _ _ h=>h) (SqL.of hl) (by omega) (fun i x H2 R hx s2 q2=>?_) (fun D ys H2 hD s2 h2 l2 h3=>?_)⟩
    · obtain ⟨t,ht,hq⟩:=QsAt.at ts hu hx
      obtain ⟨p1,dx1,fs,rfl,h1,lk⟩:=QAt.obj t hq
      have tm:=List.mem_of_getElem? ht
      walk_at "vc"
      refine ⟨_,_,_,s2 _ _ h1,lk,_,_,ih t.kd,t,_,d,kvs,f,rfl,rfl,QAt.same s2 t hq,Ts.ok_mem ts ok.2 tm,Nat.lt_of_le_of_lt (Ts.dep_le ts tm) dp,s2 _ _ hv,vo,fun H3 s3=>q2 _ H3 s3 ?_⟩
      rw [Ts.hols_eq,List.getD_eq_getElem?_getD,List.getElem?_map,ht]
      rfl
    · have e:ys=(ts.hols f).map V.bl:=by
        refine List.ext_getElem (by rw [List.length_map,Ts.hols_eq,List.length_map,l2,ln]) fun i a1 a2=>?_
        have:=h3 i _ (List.getElem?_eq_getElem a1)
        rw [this,List.getElem_map,List.getD_eq_getElem?_getD,List.getElem?_eq_getElem (by rw [List.length_map] at a2;exact a2)]
        rfl
      refine ⟨D,rfl,_,SqL.of (e ▸ h2),?_⟩
      exact q H2 s2
  | _=>cases hk
theorem ok_h_on (B:Blt mg) (cd:CD_OneOf K mg (C .on)):MethAt P w K mg base (C .on) "holds" ["self","values"] (n+2) (spHolds C N (n+1) .on):=by
  refine MethAt.of cd.c cd.m_holds sc_OneOf_holds (fun vs H Q E h=>?_) (fun f cdv A outer s H vs Q E hr h=>?_)
  · obtain ⟨t,v,d,kvs,f,rfl,_⟩:=h
    rfl
  obtain ⟨t,v,d,kvs,f,rfl,hk,hq,ok,hd,hv,vo,q⟩:=h
  refine ⟨_,(pss_one (ps_ret (pe_callB (call_anyK K) rfl B.any boot_anyB (pa_cons (pe_comp ["part"] [1] rfl (pi_listK K (pe_fldK K (pv 0))) (fun _ _ _ _ _=>pg_name (i:=0) (by show List.Nodup (["part","values"]:List Str);decide +kernel) rfl (Or.inl rfl)) (fun _ _ _ _ _=>pts_nil) (fun _ _ _ _ _=>(pe_meD (P:=P) (w:=w) (K:=K) (mg:=mg) (base:=base) (n+1) (hr.mono (by omega)) (pv 0) (pa_cons (pv 1) pa_nil))) ⟨⟨_,rfl,rfl,.inl rfl⟩,trivial⟩ gOwn_name) pa_nil)))),?_⟩
  cases t with
  | on ts =>
    obtain ⟨p,dx,l,us,rfl,hp,hl,hu⟩:=hq
    have dp:ts.dep<n:=Nat.lt_of_succ_lt_succ hd
    have ln:=QsAt.len ts hu
    have l0:=ok.1
    walk_at "vc"
    refine ⟨_,_,_,hp,cd.c,cd.n_parts,_,rfl,l,rfl,⟨_,SqL.of hl⟩,compA (xs:=us) (fun i y _=>y=.bl ((ts.hols f).getD i false)) (fun _ _ _ _ _ h=>h) (SqL.of hl) (by omega) (fun i x H2 R hx s2 q2=>?_) (fun D ys H2 hD s2 h2 l2 h3=>?_)⟩
    · obtain ⟨t,ht,hq⟩:=QsAt.at ts hu hx
      obtain ⟨p1,dx1,fs,rfl,h1,lk⟩:=QAt.obj t hq
      have tm:=List.mem_of_getElem? ht
      walk_at "vc"
      refine ⟨_,_,_,s2 _ _ h1,lk,_,_,ih t.kd,t,_,d,kvs,f,rfl,rfl,QAt.same s2 t hq,Ts.ok_mem ts ok.2 tm,Nat.lt_of_le_of_lt (Ts.dep_le ts tm) dp,s2 _ _ hv,vo,fun H3 s3=>q2 _ H3 s3 ?_⟩
      rw [Ts.hols_eq,List.getD_eq_getElem?_getD,List.getElem?_map,ht]
      rfl
    · have e:ys=(ts.hols f).map V.bl:=by
        refine List.ext_getElem (by rw [List.length_map,Ts.hols_eq,List.length_map,l2,ln]) fun i a1 a2=>?_
        have:=h3 i _ (List.getElem?_eq_getElem a1)
        rw [this,List.getElem_map,List.getD_eq_getElem?_getD,List.getElem?_eq_getElem (by rw [List.length_map] at a2;exact a2)]
        rfl
      refine ⟨D,rfl,_,SqL.of (e ▸ h2),?_⟩
      exact q H2 s2
  | _=>cases hk
omit ih
theorem ok_holdsM (B:Blt mg)(c1:CD_Every K mg (C .ev))(c2:CD_Nobody K mg (C .no))(c3:CD_Within K mg (C .wi))(c4:CD_Opposite K mg (C .op))(c5:CD_AllOf K mg (C .al))(c6:CD_OneOf K mg (C .on)):∀ n k,MethAt P w K mg base (C k) "holds" ["self","values"] (n+1) (spHolds C N n k):=by
  intro n
  induction n with
  | zero =>
    intro k
    cases k with
    | ev=>exact ok_h_ev c1 0
    | no=>exact ok_h_no c2 0
    | wi=>exact ok_h_wi c3 0
    | op=>exact MethAt.of c4.c c4.m_holds sc_Opposite_holds (fun vs H Q E h=>by obtain ⟨t,v,d,kvs,f,rfl,_⟩:=h;rfl) (fun f cdv A outer s H vs Q E hr h=>by obtain ⟨t,v,d,kvs,f,rfl,hk,hq,ok,hd,_⟩:=h;omega)
    | al=>exact MethAt.of c5.c c5.m_holds sc_AllOf_holds (fun vs H Q E h=>by obtain ⟨t,v,d,kvs,f,rfl,_⟩:=h;rfl) (fun f cdv A outer s H vs Q E hr h=>by obtain ⟨t,v,d,kvs,f,rfl,hk,hq,ok,hd,_⟩:=h;omega)
    | on=>exact MethAt.of c6.c c6.m_holds sc_OneOf_holds (fun vs H Q E h=>by obtain ⟨t,v,d,kvs,f,rfl,_⟩:=h;rfl) (fun f cdv A outer s H vs Q E hr h=>by obtain ⟨t,v,d,kvs,f,rfl,hk,hq,ok,hd,_⟩:=h;omega)
  | succ n ih =>
    intro k
    cases k with
    | ev=>exact ok_h_ev c1 _
    | no=>exact ok_h_no c2 _
    | wi=>exact ok_h_wi c3 _
    | op=>exact ok_h_op ih c4
    | al=>exact ok_h_al ih B c5
    | on=>exact ok_h_on ih B c6
end
section
variable {K:PySem.W.Frag}{H:Hp}{N:List Str}
theorem lay_tup {ds:List PyData}(h:PyData.canLayAll0 ds=true):(PyData.tuple ds).canLay0=true:=by unfold PyData.canLay0;exact h
theorem lay_lst {ds:List PyData}(h:PyData.canLayAll0 ds=true):(PyData.list ds).canLay0=true:=by unfold PyData.canLay0;exact h
theorem lay_cons {d:PyData}{ds:List PyData}(h:d.canLay0=true)(r:PyData.canLayAll0 ds=true):PyData.canLayAll0 (d::ds)=true:=by
  unfold PyData.canLayAll0
  rw [h,r]
  rfl
theorem lay_nil:PyData.canLayAll0 []=true:=by unfold PyData.canLayAll0;rfl
theorem lay_str {x:Str}(h:PyData.strOk x=true):(PyData.str x).canLay0=true:=by unfold PyData.canLay0;exact h
theorem lay_int {i:Int}:(PyData.int i).canLay0=true:=by unfold PyData.canLay0;rfl
theorem dep_tup {ds:List PyData}:(PyData.tuple ds).depth=PyData.depthAll ds+1:=by rw [PyData.depth]
theorem dep_lst {ds:List PyData}:(PyData.list ds).depth=PyData.depthAll ds+1:=by rw [PyData.depth]
theorem dep_cons {d:PyData}{ds:List PyData}:PyData.depthAll (d::ds)=max d.depth (PyData.depthAll ds):=by rw [PyData.depthAll]
theorem dep_nil:PyData.depthAll []=0:=by rw [PyData.depthAll]
theorem dep_str {x:Str}:(PyData.str x).depth=0:=by rw [PyData.depth]
theorem dep_int {x:Int}:(PyData.int x).depth=0:=by rw [PyData.depth]
mutual
theorem TrAt.rd (hN:∀ x∈N,PyData.strOk x=true):∀ (t:T) {v:V},TrAt K H t v→t.ok N→∃ d,RdD K H v d∧d.canLay0=true∧d.depth≤2*t.dep+1
  | .ev,_,h,_=>by
    unfold TrAt at h
    obtain ⟨p,rfl,h⟩:=h
    exact ⟨_,.tup h (.cons (.str _) .nil),lay_tup (lay_cons (lay_str (by decide +kernel)) lay_nil),by rw [dep_tup,dep_cons,dep_str,dep_nil];exact Nat.le_add_left _ _⟩
  | .no,_,h,_=>by
    unfold TrAt at h
    obtain ⟨p,rfl,h⟩:=h
    exact ⟨_,.tup h (.cons (.str _) .nil),lay_tup (lay_cons (lay_str (by decide +kernel)) lay_nil),by rw [dep_tup,dep_cons,dep_str,dep_nil];exact Nat.le_add_left _ _⟩
  | .inn x lo hi,_,h,o=>by
    unfold TrAt at h
    unfold T.ok at o
    obtain ⟨p,rfl,h⟩:=h
    exact ⟨_,.tup h (.cons (.str _) (.cons (.str _) (.cons (.int _) (.cons (.int _) .nil)))),lay_tup (lay_cons (lay_str (by decide +kernel)) (lay_cons (lay_str (hN _ o)) (lay_cons lay_int (lay_cons lay_int lay_nil)))),by rw [dep_tup,dep_cons,dep_str,dep_cons,dep_str,dep_cons,dep_int,dep_cons,dep_int,dep_nil];exact Nat.le_add_left _ _⟩
  | .opp t,_,h,o=>by
    unfold TrAt at h
    unfold T.ok at o
    obtain ⟨p,u,rfl,h,hu⟩:=h
    obtain ⟨d,h1,h2,h3⟩:=TrAt.rd hN t hu o
    refine ⟨_,.tup h (.cons (.str _) (.cons h1 .nil)),lay_tup (lay_cons (lay_str (by decide +kernel)) (lay_cons h2 lay_nil)),?_⟩
    rw [dep_tup,dep_cons,dep_str,dep_cons,dep_nil]
    show _≤2*(t.dep+1)+1
    omega
  | .al ts,_,h,o=>by
    unfold TrAt at h
    unfold T.ok at o
    obtain ⟨p,l,us,rfl,h,hl,hu⟩:=h
    obtain ⟨ds,h1,h2,h3⟩:=TrsAt.rd hN ts hu o.2
    refine ⟨_,.tup h (.cons (.str _) (.cons (.lst hl h1) .nil)),lay_tup (lay_cons (lay_str (by decide +kernel)) (lay_cons (lay_lst h2) lay_nil)),?_⟩
    rw [dep_tup,dep_cons,dep_str,dep_cons,dep_lst,dep_nil]
    show _≤2*(ts.dep+1)+1
    omega
  | .on ts,_,h,o=>by
    unfold TrAt at h
    unfold T.ok at o
    obtain ⟨p,l,us,rfl,h,hl,hu⟩:=h
    obtain ⟨ds,h1,h2,h3⟩:=TrsAt.rd hN ts hu o.2
    refine ⟨_,.tup h (.cons (.str _) (.cons (.lst hl h1) .nil)),lay_tup (lay_cons (lay_str (by decide +kernel)) (lay_cons (lay_lst h2) lay_nil)),?_⟩
    rw [dep_tup,dep_cons,dep_str,dep_cons,dep_lst,dep_nil]
    show _≤2*(ts.dep+1)+1
    omega
theorem TrsAt.rd (hN:∀ x∈N,PyData.strOk x=true):∀ (ts:Ts) {us:List V},TrsAt K H ts us→ts.ok N→∃ ds,RdDs K H us ds∧PyData.canLayAll0 ds=true∧PyData.depthAll ds≤2*ts.dep+1
  | .nil,_,h,_=>by
    unfold TrsAt at h
    subst h
    exact ⟨_,.nil,lay_nil,by rw [dep_nil];exact Nat.zero_le _⟩
  | .cons t r,_,h,o=>by
    unfold TrsAt at h
    unfold Ts.ok at o
    obtain ⟨u,vs,rfl,a,b⟩:=h
    obtain ⟨d,h1,h2,h3⟩:=TrAt.rd hN t a o.1
    obtain ⟨ds,k1,k2,k3⟩:=TrsAt.rd hN r b o.2
    refine ⟨_,.cons h1 k1,lay_cons h2 k2,?_⟩
    rw [dep_cons]
    have e1:t.dep≤(Ts.cons t r).dep:=Nat.le_max_left t.dep r.dep
    have e2:r.dep≤(Ts.cons t r).dep:=Nat.le_max_right t.dep r.dep
    exact Nat.max_le.mpr ⟨by omega,by omega⟩
end
theorem rds_of {n:Nat}:∀ {us:List V},(∀ u∈us,∃ d,RdD K H u d∧d.canLay0=true∧d.depth≤n)→∃ ds,RdDs K H us ds∧PyData.canLayAll0 ds=true∧PyData.depthAll ds≤n∧ds.length=us.length
  | [],_=>⟨[],.nil,lay_nil,by rw [dep_nil];exact Nat.zero_le _,rfl⟩
  | u::r,h=>by
    obtain ⟨d,h1,h2,h3⟩:=h u (.head _)
    obtain ⟨ds,k1,k2,k3,k4⟩:=rds_of fun u hu=>h u (.tail _ hu)
    exact ⟨_,.cons h1 k1,lay_cons h2 k2,by rw [dep_cons];exact Nat.max_le.mpr ⟨h3,k3⟩,congrArg (·+1) k4⟩
theorem shp {d:PyData}(h:d.canLay0=true)(l:d.depth≤64):SeqAt.shaped d=true:=by
  unfold SeqAt.shaped
  rw [h,decide_eq_true l]
  rfl
theorem nil_cmp {n:Nat}{a b:Addr}{us:List V}(hn:n≤63)(h:∀ u∈us,∃ d,RdD K H u d∧d.canLay0=true∧d.depth≤n)(ha:SqL K H a us)(hb:SqL K H b []):∃ d e,RdD K H (.ref a) d∧RdD K H (.ref b) e∧SeqAt.shaped d=true∧SeqAt.shaped e=true∧SeqAt.noMix d e=true∧PySem.Spec.same d e=us.isEmpty:=by
  obtain ⟨ds,k1,k2,k3,k4⟩:=rds_of h
  refine ⟨_,_,.lst ha k1,.lst hb .nil,shp (lay_lst k2) (by rw [dep_lst];omega),by decide +kernel,?_,?_⟩
  · unfold SeqAt.noMix
    cases ds<;>(unfold SeqAt.noMixAll;rfl)
  · unfold Spec.same
    cases ds with
    | nil =>
      cases us with
      | nil=>unfold Spec.sameAll;rfl
      | cons=>cases k4
    | cons =>
      cases us with
      | nil=>cases k4
      | cons=>unfold Spec.sameAll;rfl
theorem rEqD_nil {n:Nat}{a b:Addr}{us:List V}{Q:VK}(hn:n≤63)(h:∀ u∈us,∃ d,RdD K H u d∧d.canLay0=true∧d.depth≤n)(ha:SqL K H a us)(hb:SqL K H b [])(q:Q (.bl us.isEmpty) H):rEqD K (.ref a) (.ref b) H Q:=by
  obtain ⟨d,e,h1,h2,h3,h4,h5,h6⟩:=nil_cmp hn h ha hb
  exact ⟨d,e,h1,h2,h3,h4,h5,h6 ▸ q⟩
theorem rNeD_nil {n:Nat}{a b:Addr}{us:List V}{Q:VK}(hn:n≤63)(h:∀ u∈us,∃ d,RdD K H u d∧d.canLay0=true∧d.depth≤n)(ha:SqL K H a us)(hb:SqL K H b [])(q:Q (.bl !us.isEmpty) H):rNeD K (.ref a) (.ref b) H Q:=by
  obtain ⟨d,e,h1,h2,h3,h4,h5,h6⟩:=nil_cmp hn h ha hb
  exact ⟨d,e,h1,h2,h3,h4,h5,h6 ▸ q⟩
end
theorem cnt_len (bs:List Bool):((List.range bs.length).filter fun i=>bs.getD i false).length=(bs.filter id).length:=by
  have:=congrArg List.length (range_filter_map id id bs (fun i=>bs.getD i false) (fun i=>bs.getD i false) fun i x h=>by rw [List.getD_eq_getElem?_getD,h];exact ⟨rfl,rfl⟩)
  rw [List.length_map,List.length_map] at this
  exact this
theorem cnt_all (bs:List Bool):decide ((((List.range bs.length).filter fun i=>bs.getD i false).length:Int)=bs.length)=bs.all id:=by
  rw [cnt_len]
  cases e:bs.all id with
  | true =>
    refine decide_eq_true ?_
    rw [List.length_filter_eq_length_iff.mpr (List.all_eq_true.mp e)]
  | false =>
    refine decide_eq_false fun h=>?_
    have h:(bs.filter id).length=bs.length:=by omega
    rw [List.all_eq_true.mpr (List.length_filter_eq_length_iff.mp h)] at e
    cases e
theorem cnt_any (bs:List Bool)(g:Nat→V):(!(((List.range bs.length).filter fun i=>bs.getD i false).map g).isEmpty)=bs.any id:=by
  have l:=cnt_len bs
  have e1:(((List.range bs.length).filter fun i=>bs.getD i false).map g).isEmpty=(bs.filter id).isEmpty:=by
    rw [List.isEmpty_map]
    cases h1:((List.range bs.length).filter fun i=>bs.getD i false)<;>cases h2:bs.filter id<;>rw [h1,h2] at l<;>first | rfl | cases l
  rw [e1]
  clear e1 l
  induction bs with
  | nil=>rfl
  | cons b r ih =>
    cases b
    · exact ih
    · rfl
def spLHolds (K:PySem.W.Frag)(N:List Str)(n:Nat):Sp:=fun vs H Q _=>∃ (t:T) (v:V) (d:Addr) (kvs:List (Key × V)) (f:Str→Int),vs=[v,.ref d]∧TrAt K H t v∧t.ok N∧t.dep<n∧H d=some (.dK kvs)∧VOk N kvs f∧∀ H',Same H H'→Q (.bl (t.hol f)) H'
section
variable {P:Program}{w:World}{K:PySem.W.Frag}{mg:Str→Option Value}{base:Heap}{N:List Str}
theorem ok_lholds (B:Blt mg) (hN:∀ x∈N,PyData.strOk x=true) (d:DefAt K mg "_law_holds" s_l_holds ["_law_tree","_law_values"]):∀ n,n≤30→FnAt P w K mg base "_law_holds" ["_law_tree","_law_values"] (n+1) (spLHolds K N n):=by
  intro n
  induction n with
  | zero=>exact fun _=>FnAt.of d sc_l_holds (fun vs H Q E h=>by obtain ⟨t,v,d,kvs,f,rfl,_⟩:=h;rfl) (fun f cdv A outer s H vs Q E hr h=>by obtain ⟨t,v,d,kvs,f,rfl,_,_,h,_⟩:=h;omega)
  | succ n h_l_holds =>
    intro n30
    have h_l_holds:=h_l_holds (by omega)
    refine FnAt.of d sc_l_holds (fun vs H Q E h=>?_) (fun f cdv A outer s H vs Q E hr h=>?_)
    · obtain ⟨t,v,d,kvs,f,rfl,_⟩:=h
      rfl
    obtain ⟨t,v,d,kvs,f,rfl,ht,ok,hd,hv,vo,q⟩:=h
    refine ⟨_,(pss_cons (ps_if (pt_cmpR op_eq (pe_ix (ix_tupK K) (pv 0) pe_int (fun _ _=>rfl)) pe_str (nomark _)) (pss_one (ps_ret (pe_chain op_le op_le (pe_ix (ix_tupK K) (pv 0) pe_int (fun _ _=>rfl)) (pe_dget (hu1 hr) (pv 1) (pe_ix (ix_tupK K) (pv 0) pe_int (fun _ _=>rfl)) (fun _ _=>rfl)) (pe_ix (ix_tupK K) (pv 0) pe_int (fun _ _=>rfl))))) pss_nil)
      (pss_cons (ps_if (pt_cmpR op_eq (pe_ix (ix_tupK K) (pv 0) pe_int (fun _ _=>rfl)) pe_str (nomark _)) (pss_one (ps_ret (pe_not (pe_callF h_l_holds (hr.mono (by omega)) rfl (pa_cons (pe_ix (ix_tupK K) (pv 0) pe_int (fun _ _=>rfl)) (pa_cons (pv 1) pa_nil)))))) pss_nil)
      (pss_cons (ps_if (pt_cmpR op_eq (pe_ix (ix_tupK K) (pv 0) pe_int (fun _ _=>rfl)) pe_str (nomark _)) (pss_one (ps_ret (pe_cmpR op_eq (pe_callB (call_lenK K) rfl B.len PySem.boot_len (pa_cons (pe_comp ["_law_part"] [1] rfl (pi_listK K (pe_ix (ix_tupK K) (pv 0) pe_int (fun _ _=>rfl))) (fun _ _ _ _ _=>pg_name (i:=0) (by show List.Nodup (["_law_part","_law_values"]:List Str);decide +kernel) rfl (Or.inl rfl)) (fun _ _ _ _ _=>pts_one (pt_val (pe_callF h_l_holds (hr.mono (by omega)) rfl (pa_cons (pv 0) (pa_cons (pv 1) pa_nil))))) (fun _ _ _ _ _=>(pv 0)) ⟨⟨_,rfl,rfl,.inl rfl⟩,trivial⟩ gOwn_name) pa_nil)) (pe_callB (call_lenK K) rfl B.len PySem.boot_len (pa_cons (pe_ix (ix_tupK K) (pv 0) pe_int (fun _ _=>rfl)) pa_nil)) (nomark _)))) pss_nil)
      (pss_cons (ps_if (pt_cmpR op_eq (pe_ix (ix_tupK K) (pv 0) pe_int (fun _ _=>rfl)) pe_str (nomark _)) (pss_one (ps_ret (pe_cmpR (op_neD K (hu64 hr)) (pe_comp ["_law_part"] [1] rfl (pi_listK K (pe_ix (ix_tupK K) (pv 0) pe_int (fun _ _=>rfl))) (fun _ _ _ _ _=>pg_name (i:=0) (by show List.Nodup (["_law_part","_law_values"]:List Str);decide +kernel) rfl (Or.inl rfl)) (fun _ _ _ _ _=>pts_one (pt_val (pe_callF h_l_holds (hr.mono (by omega)) rfl (pa_cons (pv 0) (pa_cons (pv 1) pa_nil))))) (fun _ _ _ _ _=>(pv 0)) ⟨⟨_,rfl,rfl,.inl rfl⟩,trivial⟩ gOwn_name) (pe_lst pa_nil) (nomark _)))) pss_nil)
      (pss_one (ps_ret (pe_cmpR op_eq (pe_ix (ix_tupK K) (pv 0) pe_int (fun _ _=>rfl)) pe_str (nomark _)))))))),?_⟩
    cases t with
    | ev =>
      obtain ⟨p,rfl,hp⟩:=ht
      walk_at "vc"
      refine ⟨_,hp,_,rfl,rfl,?_⟩
      rw [if_neg (by decide +kernel)]
      refine ⟨_,hp,_,rfl,rfl,?_⟩
      rw [if_neg (by decide +kernel)]
      refine ⟨_,hp,_,rfl,rfl,?_⟩
      rw [if_neg (by decide +kernel)]
      refine ⟨_,hp,_,rfl,rfl,?_⟩
      rw [if_neg (by decide +kernel)]
      refine ⟨_,hp,_,rfl,rfl,?_⟩
      exact q _ (Same.refl _)
    | no =>
      obtain ⟨p,rfl,hp⟩:=ht
      walk_at "vc"
      refine ⟨_,hp,_,rfl,rfl,?_⟩
      rw [if_neg (by decide +kernel)]
      refine ⟨_,hp,_,rfl,rfl,?_⟩
      rw [if_neg (by decide +kernel)]
      refine ⟨_,hp,_,rfl,rfl,?_⟩
      rw [if_neg (by decide +kernel)]
      refine ⟨_,hp,_,rfl,rfl,?_⟩
      rw [if_neg (by decide +kernel)]
      refine ⟨_,hp,_,rfl,rfl,?_⟩
      rw [decide_eq_false (by decide +kernel)]
      exact q _ (Same.refl _)
    | inn x lo hi =>
      obtain ⟨p,rfl,hp⟩:=ht
      walk_at "vc"
      refine ⟨_,hp,_,rfl,rfl,?_⟩
      rw [if_pos rfl]
      refine ⟨_,hp,_,rfl,_,hp,_,rfl,_,.inl ⟨kvs,.inr x,.inl hv,rfl,(vo x ok).symm⟩,_,rfl,_,rfl,?_⟩
      have q:=q _ (Same.refl _)
      unfold T.hol at q
      split
      · rename_i c
        refine ⟨_,hp,_,rfl,_,rfl,_,rfl,?_⟩
        rw [decide_eq_true c] at q
        exact q
      · rename_i c
        rw [decide_eq_false c] at q
        exact q
    | opp t =>
      obtain ⟨p,u,rfl,hp,hu⟩:=ht
      walk_at "vc"
      refine ⟨_,hp,_,rfl,rfl,?_⟩
      rw [if_neg (by decide +kernel)]
      refine ⟨_,hp,_,rfl,rfl,?_⟩
      rw [if_pos rfl]
      exact ⟨_,hp,_,rfl,t,u,d,kvs,f,rfl,hu,ok,Nat.lt_of_succ_lt_succ hd,hv,vo,fun H' s=>⟨_,rfl,q H' s⟩⟩
    | al ts =>
      obtain ⟨p,l,us,rfl,hp,hl,hu⟩:=ht
      have dp:ts.dep<n:=Nat.lt_of_succ_lt_succ hd
      have ln:=TrsAt.len ts hu
      have l0:=ok.1
      walk_at "vc"
      refine ⟨_,hp,_,rfl,rfl,?_⟩
      rw [if_neg (by decide +kernel)]
      refine ⟨_,hp,_,rfl,rfl,?_⟩
      rw [if_neg (by decide +kernel)]
      refine ⟨_,hp,_,rfl,rfl,?_⟩
      rw [if_pos rfl]
      have lb:(ts.hols f).length=us.length:=by rw [Ts.hols_eq,List.length_map,ln]
      refine ⟨_,hp,_,rfl,l,rfl,⟨_,hl⟩,compT (xs:=us) (fun i=>(ts.hols f).getD i false) hl (by omega) (fun i x H2 R hx s2 q2=>?_) (fun x H2 R q2=>?_) (fun D H2 s2 h2=>?_)⟩
      · obtain ⟨t,ht,htr⟩:=TrsAt.at ts hu hx
        have tm:=List.mem_of_getElem? ht
        have e:(ts.hols f).getD i false=t.hol f:=by
          rw [Ts.hols_eq,List.getD_eq_getElem?_getD,List.getElem?_map,ht]
          rfl
        rw [e] at q2
        walk_at "vc"
        exact ⟨t,x,d,kvs,f,rfl,TrAt.same s2 t htr,Ts.ok_mem ts ok.2 tm,Nat.lt_of_le_of_lt (Ts.dep_le ts tm) dp,s2 _ _ hv,vo,fun H3 s3=>⟨_,rfl,q2 H3 s3⟩⟩
      · walk_at "vc"
        exact q2
      · refine ⟨D,rfl,_,.inl (SqL.of h2),_,sqT_same s2 hp,_,rfl,l,rfl,_,.inl (s2.seq hl),?_⟩
        have e:=cnt_all (ts.hols f)
        rw [lb] at e
        rw [List.length_map,e]
        exact q _ s2
    | on ts =>
      obtain ⟨p,l,us,rfl,hp,hl,hu⟩:=ht
      have dp:ts.dep<n:=Nat.lt_of_succ_lt_succ hd
      have ln:=TrsAt.len ts hu
      have l0:=ok.1
      walk_at "vc"
      refine ⟨_,hp,_,rfl,rfl,?_⟩
      rw [if_neg (by decide +kernel)]
      refine ⟨_,hp,_,rfl,rfl,?_⟩
      rw [if_neg (by decide +kernel)]
      refine ⟨_,hp,_,rfl,rfl,?_⟩
      rw [if_neg (by decide +kernel)]
      refine ⟨_,hp,_,rfl,rfl,?_⟩
      rw [if_pos rfl]
      have lb:(ts.hols f).length=us.length:=by rw [Ts.hols_eq,List.length_map,ln]
      refine ⟨_,hp,_,rfl,l,rfl,⟨_,hl⟩,compT (xs:=us) (fun i=>(ts.hols f).getD i false) hl (by omega) (fun i x H2 R hx s2 q2=>?_) (fun x H2 R q2=>?_) (fun D H2 s2 h2=>?_)⟩
      · obtain ⟨t,ht,htr⟩:=TrsAt.at ts hu hx
        have tm:=List.mem_of_getElem? ht
        have e:(ts.hols f).getD i false=t.hol f:=by
          rw [Ts.hols_eq,List.getD_eq_getElem?_getD,List.getElem?_map,ht]
          rfl
        rw [e] at q2
        walk_at "vc"
        exact ⟨t,x,d,kvs,f,rfl,TrAt.same s2 t htr,Ts.ok_mem ts ok.2 tm,Nat.lt_of_le_of_lt (Ts.dep_le ts tm) dp,s2 _ _ hv,vo,fun H3 s3=>⟨_,rfl,q2 H3 s3⟩⟩
      · walk_at "vc"
        exact q2
      · have e:=cnt_any (ts.hols f) fun i=>us.getD i .non
        rw [lb] at e
        refine ⟨by decide,fun p3 h3=>?_⟩
        have s3:=Same.new (o:=.lst []) h3
        refine rNeD_nil (n:=2*n+1) (by omega) (fun u hu=>?_) (SqL.of (s3 _ _ h2)) (SqL.of upd_same) ?_
        · obtain ⟨i,hi,rfl⟩:=List.mem_map.mp hu
          have hi:i<us.length:=List.mem_range.mp (List.mem_filter.mp hi).1
          have gi:us[i]?=some us[i]:=List.getElem?_eq_getElem hi
          obtain ⟨t,ht,htr⟩:=TrsAt.at ts ‹_› gi
          have tm:=List.mem_of_getElem? ht
          have e2:us.getD i .non=us[i]:=by rw [List.getD_eq_getElem?_getD,gi];rfl
          rw [e2]
          obtain ⟨d1,k1,k2,k3⟩:=TrAt.rd hN t (TrAt.same (s2.trans s3) t htr) (Ts.ok_mem ts ok.2 tm)
          have:=Ts.dep_le ts tm
          exact ⟨d1,k1,k2,by omega⟩
        · rw [e]
          exact q _ (s2.trans s3)
end
theorem strOk_app {a b:Str}(h:PyData.strOk a=true)(k:PyData.strOk b=true):PyData.strOk (a++b)=true:=by
  unfold PyData.strOk at *
  show (a.cps++b.cps).all _=true
  rw [Array.all_append,h,k]
  rfl
theorem let_ok:∀ c∈letS.cps.toList,c<1114112:=by decide +kernel
theorem sgS_ok (n:Int):PyData.strOk (sgS n)=true:=by
  have h:(atI letS.cps.toList n).getD 0<1114112:=by
    cases e:atI letS.cps.toList n with
    | none=>exact (by decide:0<1114112)
    | some c=>exact let_ok c (List.mem_of_getElem? (atI_get e).choose_spec.2.1)
  unfold PyData.strOk sgS
  simp [h]
theorem lwS_ok (x:Int)(size k:Nat):∀ j,PyData.strOk (lwS x size k j)=true
  | 0=>by show PyData.strOk (Str.ofString "")=true;decide +kernel
  | j+1=>strOk_app (lwS_ok x size k j) (sgS_ok _)
theorem nms_ok (ns:List Int)(m:Int):∀ x∈nms ns m,PyData.strOk x=true:=fun x hx=>by
  unfold nms at hx
  obtain ⟨k,_,rfl⟩:=List.mem_map.mp hx
  unfold nmK nmOf
  split
  · exact strOk_app (lwS_ok _ _ _ _) (by decide +kernel)
  · exact lwS_ok _ _ _ _
theorem nms_len (ns:List Int)(m:Int):(nms ns m).length=3:=by
  unfold nms
  rw [List.length_map,List.length_range]
def Ts.ofL:List T→Ts
  | []=>.nil
  | t::r=>.cons t (Ts.ofL r)
theorem Ts.toL_ofL:∀ l:List T,(Ts.ofL l).toL=l
  | []=>rfl
  | t::r=>congrArg (t::·) (Ts.toL_ofL r)
theorem Ts.dep_ofL {n:Nat}:∀ l:List T,(∀ t∈l,t.dep≤n)→(Ts.ofL l).dep≤n
  | [],_=>Nat.zero_le _
  | t::r,h=>Nat.max_le.mpr ⟨h t (.head _),Ts.dep_ofL r fun x hx=>h x (.tail _ hx)⟩
theorem Ts.ok_ofL {N:List Str}:∀ l:List T,(∀ t∈l,t.ok N)→(Ts.ofL l).ok N
  | [],_=>trivial
  | t::r,h=>⟨h t (.head _),Ts.ok_ofL r fun x hx=>h x (.tail _ hx)⟩
theorem Ts.nums_ofL (l:List T):(Ts.ofL l).nums=l.flatMap T.nums:=by rw [Ts.nums_eq,Ts.toL_ofL]
theorem TrsAt.mk {K:PySem.W.Frag}{H:Hp}:∀ (l:List T) {us:List V},us.length=l.length→(∀ (i:Nat) u t,us[i]?=some u→l[i]?=some t→TrAt K H t u)→TrsAt K H (Ts.ofL l) us
  | [],us,h,_=>by
    show TrsAt K H .nil us
    unfold TrsAt
    exact List.length_eq_zero_iff.mp h
  | t :: r,us,h,e=>by
    cases us with
    | nil=>cases h
    | cons u vs =>
      show TrsAt K H (.cons t (Ts.ofL r)) _
      unfold TrsAt
      exact ⟨u,vs,rfl,e 0 u t rfl rfl,TrsAt.mk r (Nat.succ.inj h) fun i=>e (i+1)⟩
structure It (K:PySem.W.Frag)(N:List Str)(G:Hp)(u:V)(x:T × Nat):Prop where
  ex:∃ q v,u=.ref q∧SqT K G q [v,.int (x.2:Nat)]∧TrAt K G x.1 v
  dep:x.1.dep≤x.2
  top:x.2≤18
  ok:x.1.ok N
theorem It.same {K:PySem.W.Frag}{N:List Str}{G G':Hp}{u:V}{x:T × Nat}(h:It K N G u x)(s:Same G G'):It K N G' u x:=by
  obtain ⟨⟨q,v,e,h1,h2⟩,a,b,c⟩:=h
  exact ⟨⟨q,v,e,sqT_same s h1,TrAt.same s _ h2⟩,a,b,c⟩
structure Its (K:PySem.W.Frag)(N:List Str)(G:Hp)(us:List V)(its:List (T × Nat)):Prop where
  len:us.length=its.length
  it:∀ (i:Nat) u x,us[i]?=some u→its[i]?=some x→It K N G u x
section
variable {K:PySem.W.Frag}{N:List Str}{G G':Hp}{us vs:List V}{its jts:List (T × Nat)}
theorem Its.same (h:Its K N G us its)(s:Same G G'):Its K N G' us its:=⟨h.len,fun i u x a b=>(h.it i u x a b).same s⟩
theorem Its.take (h:Its K N G us its)(n:Nat):Its K N G (us.take n) (its.take n):=by
  refine ⟨by rw [List.length_take,List.length_take,h.len],fun i u x a b=>?_⟩
  rw [List.getElem?_take] at a b
  split at a
  · rename_i c
    rw [if_pos c] at b
    exact h.it i u x a b
  · cases a
theorem Its.drop (h:Its K N G us its)(n:Nat):Its K N G (us.drop n) (its.drop n):=by
  refine ⟨by rw [List.length_drop,List.length_drop,h.len],fun i u x a b=>?_⟩
  rw [List.getElem?_drop] at a b
  exact h.it _ u x a b
theorem Its.snoc (h:Its K N G us its){u:V}{x:T × Nat}(hx:It K N G u x):Its K N G (us++[u]) (its++[x]):=by
  refine ⟨by rw [List.length_append,List.length_append,h.len];rfl,fun i v y a b=>?_⟩
  by_cases c:i<us.length
  · rw [List.getElem?_append_left c] at a
    rw [List.getElem?_append_left (by rw [← h.len];exact c)] at b
    exact h.it i v y a b
  · rw [List.getElem?_append_right (by omega)] at a
    have e0:i-us.length=0:=by
      have:=(List.getElem?_eq_some_iff.mp a).1
      simp at this
      omega
    rw [e0] at a
    rw [List.getElem?_append_right (by rw [← h.len];omega),← h.len,e0] at b
    cases a
    cases b
    exact hx
theorem Its.mem (h:Its K N G us its){x:T × Nat}(hx:x∈its):∃ u,It K N G u x:=by
  obtain ⟨i,hi⟩:=List.getElem?_of_mem hx
  have hl:=(List.getElem?_eq_some_iff.mp hi).1
  exact ⟨_,h.it i _ x (List.getElem?_eq_getElem (by rw [h.len];exact hl)) hi⟩
end
def nsum (its:List (T × Nat)):Nat:=(its.map fun x=>x.1.nums.length).sum
theorem nsum_app (a b:List (T × Nat)):nsum (a++b)=nsum a+nsum b:=by
  unfold nsum
  rw [List.map_append,List.sum_append]
theorem nsum_cut (its:List (T × Nat))(n:Nat):nsum (its.take n)+nsum (its.drop n)=nsum its:=by rw [← nsum_app,List.take_append_drop]
theorem nsum_one (x:T × Nat):nsum [x]=x.1.nums.length:=by
  unfold nsum
  simp
theorem nums_sum (its:List (T × Nat)):(Ts.ofL (its.map (·.1))).nums.length=nsum its:=by
  rw [Ts.nums_ofL]
  unfold nsum
  induction its with
  | nil=>rfl
  | cons x r ih=>simp [ih]
theorem max_of (ns:List Nat):∃ d:Nat,(ns.map fun (n:Nat)=>(n:Int)).max?.getD 0=(d:Int)∧∀ n∈ns,n≤d:=by
  cases e:(ns.map fun (n:Nat)=>(n:Int)).max? with
  | none =>
    have:=List.max?_eq_none_iff.mp e
    have:ns=[]:=List.map_eq_nil_iff.mp this
    subst this
    exact ⟨0,rfl,fun _ h=>by cases h⟩
  | some m =>
    obtain ⟨h1,h2⟩:=List.max?_eq_some_iff.mp e
    obtain ⟨k,hk,rfl⟩:=List.mem_map.mp h1
    exact ⟨k,rfl,fun n hn=>by have:=h2 _ (List.mem_map.mpr ⟨n,hn,rfl⟩);omega⟩
theorem cutV_from (us:List V){n:Nat}(h:n≤us.length):cutV us (some (n:Int)) none=us.drop n:=by
  unfold cutV
  have e:HT.sIx us.length 0 (some ((n:Nat):Int))=min n us.length:=HT.sIx_nat _ _ n
  have e1:HT.sIx us.length us.length none=us.length:=rfl
  rw [e,e1,Nat.min_eq_left h,List.take_of_length_le (by rw [List.length_drop];exact Nat.le_refl _)]
theorem cutV_to (us:List V){n:Nat}(h:n≤us.length):cutV us none (some (n:Int))=us.take n:=by
  unfold cutV
  have e:HT.sIx us.length us.length (some ((n:Nat):Int))=min n us.length:=HT.sIx_nat _ _ n
  have e1:HT.sIx us.length 0 none=0:=rfl
  rw [e,e1,List.drop_zero,Nat.sub_zero,Nat.min_eq_left h]
theorem cutV_last (us:List V):cutV us none (some (-1))=us.take (us.length-1):=by
  unfold cutV
  have e:HT.sIx us.length us.length (some (-1))=us.length-1:=by
    unfold HT.sIx
    show (if (-1:Int)<0 then ((-1:Int)+us.length).toNat else min (-1:Int).toNat us.length)=_
    rw [if_pos (by decide)]
    omega
  have e1:HT.sIx us.length 0 none=0:=rfl
  rw [e,e1,List.drop_zero,Nat.sub_zero]
theorem del_mv {H H':Hp}{p p':Addr}(s:Same H H')(f:H p'=none):Same (del H p) (del H' p'):=fun b o e=>by
  obtain ⟨n,e⟩:=del_some e
  rw [del_ne (ne_of_none e f)]
  exact s _ _ e
theorem del_put {H H':Hp}{p:Addr}{o:HO}(s:Same H H'):Same (del H p) (del (upd H' p o) p):=fun b ob e=>by
  obtain ⟨n,e⟩:=del_some e
  rw [del_ne n,upd_ne n]
  exact s _ _ e
theorem new_put {H H' H'':Hp}{p:Addr}{o o':HO}(h:H p=some o')(s:Same H' H''):Same (New H H') (del (upd H'' p o) p):=fun b ob e=>by
  obtain ⟨e1,e2⟩:=New.some e
  have n:b≠p:=fun z=>by rw [z,h] at e1;cases e1
  rw [del_ne n,upd_ne n]
  exact s _ _ e2
theorem del_sub {H:Hp}{p:Addr}:Same (del H p) H:=fun b o e=>(del_some e).2
mutual
def T.lv:T→Nat
  | .opp t=>t.lv
  | .al ts=>ts.lv
  | .on ts=>ts.lv
  | _=>1
def Ts.lv:Ts→Nat
  | .nil=>0
  | .cons t r=>t.lv+r.lv
end
mutual
def T.mn:T→List Str
  | .inn x _ _=>[x]
  | .opp t=>t.mn
  | .al ts=>ts.mn
  | .on ts=>ts.mn
  | _=>[]
def Ts.mn:Ts→List Str
  | .nil=>[]
  | .cons t r=>t.mn++r.mn
end
def T.kids:T→Ts
  | .opp t=>.cons t .nil
  | .al ts=>ts
  | .on ts=>ts
  | _=>.nil
theorem Ts.lv_eq:∀ ts:Ts,(ts.lv:Int)=(ts.toL.map fun t=>(t.lv:Int)).sum
  | .nil=>rfl
  | .cons t r=>by
    show ((t.lv+r.lv:Nat):Int)=(t.lv:Int)+(r.toL.map fun t=>(t.lv:Int)).sum
    rw [← Ts.lv_eq r]
    omega
theorem Ts.mn_eq:∀ ts:Ts,ts.mn=ts.toL.flatMap T.mn
  | .nil=>rfl
  | .cons t r=>by
    show t.mn++r.mn=t.mn++r.toL.flatMap T.mn
    rw [Ts.mn_eq r]
mutual
theorem T.mn_le:∀ t:T,t.mn.length≤t.nums.length
  | .ev=>Nat.zero_le _
  | .no=>Nat.zero_le _
  | .inn _ _ _=>by show 1≤2;decide
  | .opp t=>T.mn_le t
  | .al ts=>Ts.mn_le ts
  | .on ts=>Ts.mn_le ts
theorem Ts.mn_le:∀ ts:Ts,ts.mn.length≤ts.nums.length
  | .nil=>Nat.zero_le _
  | .cons t r=>by
    show (t.mn++r.mn).length≤(t.nums++r.nums).length
    rw [List.length_append,List.length_append]
    exact Nat.add_le_add (T.mn_le t) (Ts.mn_le r)
end
def fstM (ts:Ts)(i:Nat):List Str:=(ts.toL.take i).flatMap T.mn
theorem fstM_step {ts:Ts}{i:Nat}{t:T}(h:ts.toL[i]?=some t):fstM ts (i+1)=fstM ts i++t.mn:=by
  unfold fstM
  rw [List.take_add_one,h,List.flatMap_append]
  simp
theorem fstM_le (ts:Ts)(i:Nat):(fstM ts i).length≤ts.mn.length:=by
  have:=congrArg List.length (congrArg (List.flatMap T.mn) (List.take_append_drop i ts.toL))
  rw [List.flatMap_append,List.length_append,← Ts.mn_eq] at this
  unfold fstM
  omega
theorem fstM_all (ts:Ts):fstM ts ts.toL.length=ts.mn:=by
  unfold fstM
  rw [List.take_length,Ts.mn_eq]
theorem T.kids_ok {N:List Str}:∀ {t:T},t.ok N→t.kids.ok N∧t.kids.toL.length≤1000
  | .ev,_=>⟨trivial,Nat.zero_le _⟩
  | .no,_=>⟨trivial,Nat.zero_le _⟩
  | .inn _ _ _,_=>⟨trivial,Nat.zero_le _⟩
  | .opp t,h=>⟨⟨h,trivial⟩,by show 1≤1000;decide⟩
  | .al ts,h=>⟨h.2,h.1⟩
  | .on ts,h=>⟨h.2,h.1⟩
theorem T.kids_dep:∀ {t:T} {n:Nat},t.dep<n+1→∀ x∈t.kids.toL,x.dep<n
  | .ev,_,_,x,h=>by cases h
  | .no,_,_,x,h=>by cases h
  | .inn _ _ _,_,_,x,h=>by cases h
  | .opp t,n,hd,x,h=>by
    rw [List.mem_singleton.mp h]
    exact Nat.lt_of_succ_lt_succ hd
  | .al ts,n,hd,x,h=>Nat.lt_of_le_of_lt (Ts.dep_le ts h) (Nat.lt_of_succ_lt_succ hd)
  | .on ts,n,hd,x,h=>Nat.lt_of_le_of_lt (Ts.dep_le ts h) (Nat.lt_of_succ_lt_succ hd)
theorem T.kids_mn:∀ {t:T},t.kd≠.wi→t.mn=t.kids.mn
  | .ev,_=>rfl
  | .no,_=>rfl
  | .inn _ _ _,h=>absurd rfl h
  | .opp t,_=>(List.append_nil _).symm
  | .al ts,_=>rfl
  | .on ts,_=>rfl
def Kd.low:Kd→Bool
  | .op=>true
  | .al=>true
  | .on=>true
  | _=>false
theorem T.kids_lv:∀ {t:T},t.kd.low=true→t.lv=t.kids.lv∧t.dep=t.kids.dep+1
  | .opp t,_=>⟨rfl,by show t.dep+1=Nat.max t.dep 0+1;rw [show Nat.max t.dep 0=t.dep from Nat.max_zero _]⟩
  | .al ts,_=>⟨rfl,rfl⟩
  | .on ts,_=>⟨rfl,rfl⟩
  | .ev,h=>by cases h
  | .no,h=>by cases h
  | .inn _ _ _,h=>by cases h
def spBen (C:Kd→Addr)(k:Kd):Sp:=fun vs H Q _=>∃ (t:T) (v:V) (G:Hp),vs=[v]∧t.kd=k∧QAt C G t v∧Same G H∧∀ p us H',Same H H'→H p=none→H' p=some (.lst us)→QsAt C G t.kids us→Q (.ref p) H'
section
variable {P:Program}{w:World}{K:PySem.W.Frag}{mg:Str→Option Value}{base:Heap}{C:Kd→Addr}{N:List Str}{n:Nat}
theorem ok_benL (k:Kd)(hk:k=.ev∨k=.no∨k=.wi)(c:Cls K (C k))(d:MDefAt K (C k) "beneath" "Leaf.beneath" s_Leaf_beneath ["self"]):MethAt P w K mg base (C k) "beneath" ["self"] 1 (spBen C k):=by
  refine MethAt.of c d sc_Leaf_beneath (fun vs H Q E h=>?_) (fun f cdv A outer s H vs Q E hr h=>?_)
  · obtain ⟨t,v,G,rfl,_⟩:=h
    rfl
  obtain ⟨t,v,G,rfl,tk,hq,sG,q⟩:=h
  refine ⟨_,(pss_one (ps_ret (pe_lst pa_nil))),?_⟩
  walk_at "vc"
  refine ⟨Nat.zero_le _,fun p hp=>q p [] _ (Same.new hp) hp upd_same ?_⟩
  have e:t.kids=.nil:=by
    cases t<;>first | rfl | (rcases hk with z | z | z<;>(rw [z] at tk;cases tk))
  rw [e]
  unfold QsAt
  rfl
theorem ok_benO (cd:CD_Opposite K mg (C .op)):MethAt P w K mg base (C .op) "beneath" ["self"] 1 (spBen C .op):=by
  refine MethAt.of cd.c cd.m_beneath sc_Opposite_beneath (fun vs H Q E h=>?_) (fun f cdv A outer s H vs Q E hr h=>?_)
  · obtain ⟨t,v,G,rfl,_⟩:=h
    rfl
  obtain ⟨t,v,G,rfl,tk,hq,sG,q⟩:=h
  refine ⟨_,(pss_one (ps_ret (pe_lst (pa_cons (pe_fldK K (pv 0)) pa_nil)))),?_⟩
  cases t with
  | opp t =>
    obtain ⟨p,dx,u,rfl,hp,hu⟩:=hq
    walk_at "vc"
    refine ⟨_,_,_,sG _ _ hp,cd.c,cd.n_one,_,rfl,by decide,fun p1 f1=>q p1 [u] _ (Same.new f1) f1 upd_same ?_⟩
    unfold T.kids QsAt
    refine ⟨u,[],rfl,hu,?_⟩
    unfold QsAt
    rfl
  | _=>cases tk
theorem ok_benA (B:Blt mg)(cd:CD_AllOf K mg (C .al)):MethAt P w K mg base (C .al) "beneath" ["self"] 1 (spBen C .al):=by
  refine MethAt.of cd.c cd.m_beneath sc_AllOf_beneath (fun vs H Q E h=>?_) (fun f cdv A outer s H vs Q E hr h=>?_)
  · obtain ⟨t,v,G,rfl,_⟩:=h
    rfl
  obtain ⟨t,v,G,rfl,tk,hq,sG,q⟩:=h
  refine ⟨_,(pss_one (ps_ret (pe_callTy (call_listK K) rfl B.lst boot_list (pa_cons (pe_fldK K (pv 0)) pa_nil)))),?_⟩
  cases t with
  | al ts =>
    obtain ⟨p,dx,l,us,rfl,hp,hl,hu⟩:=hq
    walk_at "vc"
    exact ⟨_,_,_,sG _ _ hp,cd.c,cd.n_parts,_,rfl,l,rfl,_,.inl (SqL.of (sG _ _ hl)),fun p1 f1=>q p1 us _ (Same.new f1) f1 upd_same hu⟩
  | _=>cases tk
theorem ok_benN (B:Blt mg)(cd:CD_OneOf K mg (C .on)):MethAt P w K mg base (C .on) "beneath" ["self"] 1 (spBen C .on):=by
  refine MethAt.of cd.c cd.m_beneath sc_OneOf_beneath (fun vs H Q E h=>?_) (fun f cdv A outer s H vs Q E hr h=>?_)
  · obtain ⟨t,v,G,rfl,_⟩:=h
    rfl
  obtain ⟨t,v,G,rfl,tk,hq,sG,q⟩:=h
  refine ⟨_,(pss_one (ps_ret (pe_callTy (call_listK K) rfl B.lst boot_list (pa_cons (pe_fldK K (pv 0)) pa_nil)))),?_⟩
  cases t with
  | on ts =>
    obtain ⟨p,dx,l,us,rfl,hp,hl,hu⟩:=hq
    walk_at "vc"
    exact ⟨_,_,_,sG _ _ hp,cd.c,cd.n_parts,_,rfl,l,rfl,_,.inl (SqL.of (sG _ _ hl)),fun p1 f1=>q p1 us _ (Same.new f1) f1 upd_same hu⟩
  | _=>cases tk
end
def spLv (C:Kd→Addr)(N:List Str)(n:Nat)(k:Kd):Sp:=fun vs H Q _=>∃ (t:T) (v:V) (G:Hp),vs=[v]∧t.kd=k∧QAt C G t v∧Same G H∧t.ok N∧t.dep<n∧∀ H',Same H H'→Q (.int t.lv) H'
def spDp (C:Kd→Addr)(N:List Str)(n:Nat)(k:Kd):Sp:=fun vs H Q _=>∃ (t:T) (v:V) (G:Hp),vs=[v]∧t.kd=k∧QAt C G t v∧Same G H∧t.ok N∧t.dep<n∧∀ H',Same H H'→Q (.int t.dep) H'
def spMn (C:Kd→Addr)(N:List Str)(n:Nat)(k:Kd):Sp:=fun vs H Q _=>∃ (t:T) (v:V) (G:Hp),vs=[v]∧t.kd=k∧QAt C G t v∧Same G H∧t.ok N∧t.dep<n∧t.nums.length≤10000∧∀ p H',Same H H'→H p=none→H' p=some (.lst (t.mn.map V.str))→Q (.ref p) H'
theorem QAt.obj2 {C:Kd→Addr}{H:Hp}(m:Str)(hm:m≠"name"∧m≠"low"∧m≠"high"∧m≠"one"∧m≠"parts"):∀ (t:T) {v:V},QAt C H t v→∃ p dx fs,v=.ref p∧H p=some (.ins (C t.kd) dx fs)∧fs.lookup m=none:=by
  obtain ⟨h1,h2,h3,h4,h5⟩:=hm
  intro t v h
  cases t with
  | ev =>
    obtain ⟨p,dx,q,r⟩:=h
    exact ⟨p,dx,_,q,r,rfl⟩
  | no =>
    obtain ⟨p,dx,q,r⟩:=h
    exact ⟨p,dx,_,q,r,rfl⟩
  | inn _ _ _ =>
    obtain ⟨p,dx,q,r⟩:=h
    refine ⟨p,dx,_,q,r,?_⟩
    simp [List.lookup,beq_eq_false_iff_ne.mpr h1,beq_eq_false_iff_ne.mpr h2,beq_eq_false_iff_ne.mpr h3]
  | opp t =>
    obtain ⟨p,dx,u,q,r,_⟩:=h
    refine ⟨p,dx,_,q,r,?_⟩
    simp [List.lookup,beq_eq_false_iff_ne.mpr h4]
  | al ts =>
    obtain ⟨p,dx,l,us,q,r,_⟩:=h
    refine ⟨p,dx,_,q,r,?_⟩
    simp [List.lookup,beq_eq_false_iff_ne.mpr h5]
  | on ts =>
    obtain ⟨p,dx,l,us,q,r,_⟩:=h
    refine ⟨p,dx,_,q,r,?_⟩
    simp [List.lookup,beq_eq_false_iff_ne.mpr h5]
theorem max_dep (ts:Ts):(ts.toL.map fun t=>(t.dep:Int)).max?.getD 0=(ts.dep:Int):=by
  obtain ⟨d,e,h⟩:=max_of (ts.toL.map T.dep)
  rw [List.map_map] at e
  have e:(ts.toL.map fun t=>(t.dep:Int)).max?.getD 0=(d:Int):=e
  have l1:ts.dep≤d:=by
    have:∀ ts:Ts,(∀ t∈ts.toL,t.dep≤d)→ts.dep≤d:=fun ts=>by
      refine Ts.rec (motive_1:=fun _=>True) (motive_2:=fun ts=>(∀ t∈ts.toL,t.dep≤d)→ts.dep≤d) trivial trivial (fun _ _ _=>trivial) (fun _ _=>trivial) (fun _ _=>trivial) (fun _ _=>trivial) (fun _=>Nat.zero_le _) (fun t r _ ih h=>?_) ts
      exact Nat.max_le.mpr ⟨h t (.head _),ih fun x hx=>h x (.tail _ hx)⟩
    exact this ts fun t ht=>h _ (List.mem_map.mpr ⟨t,ht,rfl⟩)
  have l2:d≤ts.dep:=by
    cases em:(ts.toL.map fun t=>(t.dep:Int)).max? with
    | none =>
      rw [em] at e
      have e:(0:Int)=d:=e
      omega
    | some m =>
      obtain ⟨h1,_⟩:=List.max?_eq_some_iff.mp em
      obtain ⟨t,ht,rfl⟩:=List.mem_map.mp h1
      rw [em] at e
      have e:(t.dep:Int)=d:=e
      have:=Ts.dep_le ts ht
      omega
  rw [e]
  omega
theorem Ts.nums_mem:∀ (ts:Ts) {t:T},t∈ts.toL→t.nums.length≤ts.nums.length
  | .nil,_,h=>by cases h
  | .cons t r,x,h=>by
    show _≤(t.nums++r.nums).length
    rw [List.length_append]
    rcases List.mem_cons.mp h with rfl | h
    · exact Nat.le_add_right _ _
    · exact Nat.le_trans (Ts.nums_mem r h) (Nat.le_add_left _ _)
theorem T.kids_nums:∀ t:T,t.kids.nums.length≤t.nums.length
  | .ev=>Nat.zero_le _
  | .no=>Nat.zero_le _
  | .inn _ _ _=>Nat.zero_le _
  | .opp t=>by
    show (t.nums++[]).length≤t.nums.length
    rw [List.append_nil]
    exact Nat.le_refl _
  | .al ts=>Nat.le_refl _
  | .on ts=>Nat.le_refl _
structure MnI (ts:Ts)(v:V)(p l:Addr)(us:List V)(H:Hp)(i:Nat)(σ:L2.St)(H':Hp):Prop where
  ex:∃ v2,σ=[some v,some (.ref p),v2]
  hp:H' p=some (.lst ((fstM ts i).map V.str))
  hl:H' l=some (.lst us)
  sm:Same H H'
section
variable {P:Program}{w:World}{K:PySem.W.Frag}{mg:Str→Option Value}{base:Heap}{C:Kd→Addr}{N:List Str}{n:Nat}
theorem ok_lvL (k:Kd)(hk:k=.ev∨k=.no∨k=.wi)(c:Cls K (C k))(d:MDefAt K (C k) "leaves" "Leaf.leaves" s_Leaf_leaves ["self"]):MethAt P w K mg base (C k) "leaves" ["self"] (n+2) (spLv C N n k):=by
  refine MethAt.of c d sc_Leaf_leaves (fun vs H Q E h=>?_) (fun f cdv A outer s H vs Q E hr h=>?_)
  · obtain ⟨t,v,G,rfl,_⟩:=h
    rfl
  obtain ⟨t,v,G,rfl,tk,hq,sG,ok,hd,q⟩:=h
  refine ⟨_,(pss_one (ps_ret pe_int)),?_⟩
  walk_at "vc"
  have e:t.lv=1:=by
    cases t<;>first | rfl | (rcases hk with z | z | z<;>(rw [z] at tk;cases tk))
  have q:=q _ (Same.refl _)
  rw [e] at q
  exact q
theorem ok_dpL (k:Kd)(hk:k=.ev∨k=.no∨k=.wi)(c:Cls K (C k))(d:MDefAt K (C k) "depth" "Leaf.depth" s_Leaf_depth ["self"]):MethAt P w K mg base (C k) "depth" ["self"] (n+2) (spDp C N n k):=by
  refine MethAt.of c d sc_Leaf_depth (fun vs H Q E h=>?_) (fun f cdv A outer s H vs Q E hr h=>?_)
  · obtain ⟨t,v,G,rfl,_⟩:=h
    rfl
  obtain ⟨t,v,G,rfl,tk,hq,sG,ok,hd,q⟩:=h
  refine ⟨_,(pss_one (ps_ret pe_int)),?_⟩
  walk_at "vc"
  have e:t.dep=0:=by
    cases t<;>first | rfl | (rcases hk with z | z | z<;>(rw [z] at tk;cases tk))
  have q:=q _ (Same.refl _)
  rw [e] at q
  exact q
theorem ok_mnW (cd:CD_Within K mg (C .wi)):MethAt P w K mg base (C .wi) "mentions" ["self"] (n+2) (spMn C N n .wi):=by
  refine MethAt.of cd.c cd.m_mentions sc_Within_mentions (fun vs H Q E h=>?_) (fun f cdv A outer s H vs Q E hr h=>?_)
  · obtain ⟨t,v,G,rfl,_⟩:=h
    rfl
  obtain ⟨t,v,G,rfl,tk,hq,sG,ok,hd,hn,q⟩:=h
  refine ⟨_,(pss_one (ps_ret (pe_lst (pa_cons (pe_fldK K (pv 0)) pa_nil)))),?_⟩
  cases t with
  | inn x lo hi =>
    obtain ⟨p,dx,rfl,hp⟩:=hq
    walk_at "vc"
    exact ⟨_,_,_,sG _ _ hp,cd.c,cd.n_name,_,rfl,by decide,fun p1 f1=>q p1 _ (Same.new f1) f1 upd_same⟩
  | _=>cases tk
theorem ok_lvQ (B:Blt mg)(k:Kd)(hk:k.low=true)(ih:∀ k,MethAt P w K mg base (C k) "leaves" ["self"] (n+2) (spLv C N n k))(hb:MethAt P w K mg base (C k) "beneath" ["self"] 1 (spBen C k))(c:Cls K (C k))(d:MDefAt K (C k) "leaves" "Question.leaves" s_Question_leaves ["self"]):MethAt P w K mg base (C k) "leaves" ["self"] (n+3) (spLv C N (n+1) k):=by
  refine MethAt.of c d sc_Question_leaves (fun vs H Q E h=>?_) (fun f cdv A outer s H vs Q E hr h=>?_)
  · obtain ⟨t,v,G,rfl,_⟩:=h
    rfl
  obtain ⟨t,v,G,rfl,tk,hq,sG,ok,hd,q⟩:=h
  refine ⟨_,(pss_one (ps_ret (pe_callB (call_sumK K) rfl B.sum boot_sumB (pa_cons (pe_comp ["question"] [] rfl (pi_listK K (pe_meD0 (P:=P) (w:=w) (K:=K) (mg:=mg) (base:=base) 1 (hr.mono (by omega)) (pv 0))) (fun _ _ _ _ _=>pg_name (i:=0) (by show List.Nodup (["question"]:List Str);decide +kernel) rfl (Or.inl rfl)) (fun _ _ _ _ _=>pts_nil) (fun _ _ _ _ _=>(pe_meD0 (P:=P) (w:=w) (K:=K) (mg:=mg) (base:=base) (n+2) (hr.mono (by omega)) (pv 0))) trivial gOwn_name) pa_nil)))),?_⟩
  obtain ⟨p,dx,fs,rfl,hp,lk⟩:=QAt.obj2 "beneath" (by decide) t hq
  obtain ⟨ko,kl⟩:=T.kids_ok ok
  have kd:=T.kids_dep hd
  walk_at "vc"
  refine ⟨_,_,_,sG _ _ hp,lk,_,_,tk ▸ hb,t,_,G,rfl,tk ▸ rfl,hq,sG,fun l us H1 s1 f1 h1 qs=>?_⟩
  have ln:=QsAt.len _ qs
  refine ⟨l,rfl,⟨_,SqL.of h1⟩,compA (xs:=us) (fun i y _=>∀ x,t.kids.toL[i]?=some x→y=.int x.lv) (fun _ _ _ _ _ h=>h) (SqL.of h1) (by omega) (fun i x H2 R hx s2 q2=>?_) (fun D ys H2 hD s2 h2 l2 h3=>?_)⟩
  · obtain ⟨t',ht,hq'⟩:=QsAt.at _ qs hx
    obtain ⟨p1,dx1,fs1,rfl,h4,lk1⟩:=QAt.obj2 "leaves" (by decide) t' hq'
    have tm:=List.mem_of_getElem? ht
    walk_at "vc"
    refine ⟨_,_,_,((sG.trans s1).trans s2) _ _ h4,lk1,_,_,ih t'.kd,t',_,G,rfl,rfl,hq',(sG.trans s1).trans s2,Ts.ok_mem _ ko tm,kd t' tm,fun H3 s3=>q2 _ H3 s3 fun x hx'=>?_⟩
    cases ht.symm.trans hx'
    rfl
  · have e:ys=(t.kids.toL.map fun t=>(t.lv:Int)).map V.int:=by
      refine List.ext_getElem (by rw [List.length_map,List.length_map,l2,ln]) fun i a1 a2=>?_
      have hl:i<t.kids.toL.length:=by rw [← ln,← l2];exact a1
      have:=h3 i _ (List.getElem?_eq_getElem a1) _ (List.getElem?_eq_getElem hl)
      rw [this,List.getElem_map,List.getElem_map]
    refine ⟨D,rfl,_,SqL.of (e ▸ h2),?_⟩
    have q:=q H2 (s1.trans s2)
    rw [(T.kids_lv (tk ▸ hk)).1,Ts.lv_eq] at q
    exact q
theorem ok_dpQ (B:Blt mg)(k:Kd)(hk:k.low=true)(ih:∀ k,MethAt P w K mg base (C k) "depth" ["self"] (n+2) (spDp C N n k))(hb:MethAt P w K mg base (C k) "beneath" ["self"] 1 (spBen C k))(c:Cls K (C k))(d:MDefAt K (C k) "depth" "Question.depth" s_Question_depth ["self"]):MethAt P w K mg base (C k) "depth" ["self"] (n+3) (spDp C N (n+1) k):=by
  refine MethAt.of c d sc_Question_depth (fun vs H Q E h=>?_) (fun f cdv A outer s H vs Q E hr h=>?_)
  · obtain ⟨t,v,G,rfl,_⟩:=h
    rfl
  obtain ⟨t,v,G,rfl,tk,hq,sG,ok,hd,q⟩:=h
  refine ⟨_,(pss_one (ps_ret (pe_op op_add pe_int (pe_callBK (call_maxDK K) rfl B.max boot_maxB (pa_cons (pe_comp ["question"] [] rfl (pi_listK K (pe_meD0 (P:=P) (w:=w) (K:=K) (mg:=mg) (base:=base) 1 (hr.mono (by omega)) (pv 0))) (fun _ _ _ _ _=>pg_name (i:=0) (by show List.Nodup (["question"]:List Str);decide +kernel) rfl (Or.inl rfl)) (fun _ _ _ _ _=>pts_nil) (fun _ _ _ _ _=>(pe_meD0 (P:=P) (w:=w) (K:=K) (mg:=mg) (base:=base) (n+2) (hr.mono (by omega)) (pv 0))) trivial gOwn_name) pa_nil) (pk_cons pe_int pk_nil))))),?_⟩
  obtain ⟨p,dx,fs,rfl,hp,lk⟩:=QAt.obj2 "beneath" (by decide) t hq
  obtain ⟨ko,kl⟩:=T.kids_ok ok
  have kd:=T.kids_dep hd
  walk_at "vc"
  refine ⟨_,_,_,sG _ _ hp,lk,_,_,tk ▸ hb,t,_,G,rfl,tk ▸ rfl,hq,sG,fun l us H1 s1 f1 h1 qs=>?_⟩
  have ln:=QsAt.len _ qs
  refine ⟨l,rfl,⟨_,SqL.of h1⟩,compA (xs:=us) (fun i y _=>∀ x,t.kids.toL[i]?=some x→y=.int x.dep) (fun _ _ _ _ _ h=>h) (SqL.of h1) (by omega) (fun i x H2 R hx s2 q2=>?_) (fun D ys H2 hD s2 h2 l2 h3=>?_)⟩
  · obtain ⟨t',ht,hq'⟩:=QsAt.at _ qs hx
    obtain ⟨p1,dx1,fs1,rfl,h4,lk1⟩:=QAt.obj2 "depth" (by decide) t' hq'
    have tm:=List.mem_of_getElem? ht
    walk_at "vc"
    refine ⟨_,_,_,((sG.trans s1).trans s2) _ _ h4,lk1,_,_,ih t'.kd,t',_,G,rfl,rfl,hq',(sG.trans s1).trans s2,Ts.ok_mem _ ko tm,kd t' tm,fun H3 s3=>q2 _ H3 s3 fun x hx'=>?_⟩
    cases ht.symm.trans hx'
    rfl
  · have e:ys=(t.kids.toL.map fun t=>(t.dep:Int)).map V.int:=by
      refine List.ext_getElem (by rw [List.length_map,List.length_map,l2,ln]) fun i a1 a2=>?_
      have hl:i<t.kids.toL.length:=by rw [← ln,← l2];exact a1
      have:=h3 i _ (List.getElem?_eq_getElem a1) _ (List.getElem?_eq_getElem hl)
      rw [this,List.getElem_map,List.getElem_map]
    refine ⟨D,rfl,_,SqL.of (e ▸ h2),?_⟩
    have q:=q H2 (s1.trans s2)
    rw [(T.kids_lv (tk ▸ hk)).2] at q
    rw [max_dep]
    rw [show (1:Int)+(t.kids.dep:Int)=((t.kids.dep+1:Nat):Int) by omega]
    exact q
theorem ok_mnQ (k:Kd)(hk:k≠.wi)(ih:∀ k,MethAt P w K mg base (C k) "mentions" ["self"] (n+2) (spMn C N n k))(hb:MethAt P w K mg base (C k) "beneath" ["self"] 1 (spBen C k))(c:Cls K (C k))(d:MDefAt K (C k) "mentions" "Question.mentions" s_Question_mentions ["self"]):MethAt P w K mg base (C k) "mentions" ["self"] (n+3) (spMn C N (n+1) k):=by
  refine MethAt.of c d sc_Question_mentions (fun vs H Q E h=>?_) (fun f cdv A outer s H vs Q E hr h=>?_)
  · obtain ⟨t,v,G,rfl,_⟩:=h
    rfl
  obtain ⟨t,v,G,rfl,tk,hq,sG,ok,hd,hn,q⟩:=h
  refine ⟨_,(pss_cons (ps_set (i:=1) sc_Question_mentions.nd rfl (by walk_at "l") (pe_lst pa_nil))
      (pss_cons (ps_for PassesOwn.never rfl (pi_listK K (pe_meD0 (P:=P) (w:=w) (K:=K) (mg:=mg) (base:=base) 1 (hr.mono (by omega)) (pv 0))) (pg_name (i:=2) sc_Question_mentions.nd rfl (by walk_at "l")) (pss_one (ps_expr (pe_bmK K PySem.F.plainAttrs_list PySem.F.slot_list_extend PySem.F.type_list_extend mt_extend (pv 1) (pa_cons (pe_meD0 (P:=P) (w:=w) (K:=K) (mg:=mg) (base:=base) (n+2) (hr.mono (by omega)) (pv 2)) pa_nil)))))
      (pss_one (ps_ret (pv 1))))),?_⟩
  obtain ⟨p,dx,fs,rfl,hp,lk⟩:=QAt.obj2 "beneath" (by decide) t hq
  obtain ⟨ko,kl⟩:=T.kids_ok ok
  have kd:=T.kids_dep hd
  walk_at "vc"
  refine ⟨Nat.zero_le _,fun p0 f0=>?_⟩
  have sG0:=sG.trans (Same.new (o:=.lst []) f0)
  refine ⟨_,_,_,sG0 _ _ hp,lk,_,_,tk ▸ hb,t,_,G,rfl,tk ▸ rfl,hq,sG0,fun l us H1 s1 f1 h1 qs=>?_⟩
  have ln:=QsAt.len _ qs
  have nl:l≠p0:=fun z=>by rw [z,upd_same] at f1;cases f1
  have kn:=T.kids_nums t
  have km:=Ts.mn_le t.kids
  refine ⟨l,rfl,⟨_,SqL.of h1⟩,loopL (K:=K) (xs:=us) (MnI t.kids (.ref p) p0 l us H) ⟨⟨_,rfl⟩,s1 _ _ upd_same,h1,(Same.new f0).trans s1⟩ (fun i σ H' _ h=>SqL.of h.hl) ?_ ?_⟩
  · rintro i u σ H2 hu ⟨⟨v2,rfl⟩,hp2,hl2,s2⟩
    obtain ⟨t',ht,hq'⟩:=QsAt.at _ qs hu
    obtain ⟨p1,dx1,fs1,rfl,h4,lk1⟩:=QAt.obj2 "mentions" (by decide) t' hq'
    have tm:=List.mem_of_getElem? ht
    have tn:=Ts.nums_mem _ tm
    have st:=fstM_step ht
    have le:=fstM_le t.kids (i+1)
    rw [st,List.length_append] at le
    walk_at "vc"
    refine ⟨⟨_,SqL.of hp2⟩,_,_,_,(sG.trans s2) _ _ h4,lk1,_,_,ih t'.kd,t',_,G,rfl,rfl,hq',sG.trans s2,Ts.ok_mem _ ko tm,kd t' tm,by omega,fun p3 H3 s3 f3 h3=>?_⟩
    refine ⟨p3,rfl,_,s3 _ _ hp2,_,h3,small5 (by rw [List.length_map,List.length_map];omega),⟨_,rfl⟩,?_,?_,(s2.trans s3).put f0⟩
    · rw [upd_same,st,List.map_append]
    · rw [upd_ne nl]
      exact s3 _ _ hl2
  · rintro σ H2 ⟨⟨v2,rfl⟩,hp2,hl2,s2⟩
    walk_at "vc"
    rw [ln,fstM_all,← T.kids_mn (tk ▸ hk)] at hp2
    exact q _ _ s2 f0 hp2
variable (cd1:CD_Every K mg (C .ev))(cd2:CD_Nobody K mg (C .no))(cd3:CD_Within K mg (C .wi))(cd4:CD_Opposite K mg (C .op))(cd5:CD_AllOf K mg (C .al))(cd6:CD_OneOf K mg (C .on))
include cd1 cd2 cd3 cd4 cd5 cd6
theorem ok_ben (B:Blt mg):∀ k,MethAt P w K mg base (C k) "beneath" ["self"] 1 (spBen C k)
  | .ev=>ok_benL .ev (.inl rfl) cd1.c cd1.m_beneath
  | .no=>ok_benL .no (.inr (.inl rfl)) cd2.c cd2.m_beneath
  | .wi=>ok_benL .wi (.inr (.inr rfl)) cd3.c cd3.m_beneath
  | .op=>ok_benO cd4
  | .al=>ok_benA B cd5
  | .on=>ok_benN B cd6
theorem ok_lv (B:Blt mg):∀ n k,MethAt P w K mg base (C k) "leaves" ["self"] (n+2) (spLv C N n k):=by
  intro n
  induction n with
  | zero =>
    have z:∀ k (c:Cls K (C k)),MDefAt K (C k) "leaves" "Question.leaves" s_Question_leaves ["self"]→MethAt P w K mg base (C k) "leaves" ["self"] 2 (spLv C N 0 k):=fun k c d=>MethAt.of c d sc_Question_leaves (fun vs H Q E h=>by obtain ⟨t,v,G,rfl,_⟩:=h;rfl) (fun f cdv A outer s H vs Q E hr h=>by obtain ⟨t,v,G,rfl,_,_,_,_,hd,_⟩:=h;omega)
    exact fun k=>match k with
      | .ev=>ok_lvL .ev (.inl rfl) cd1.c cd1.m_leaves
      | .no=>ok_lvL .no (.inr (.inl rfl)) cd2.c cd2.m_leaves
      | .wi=>ok_lvL .wi (.inr (.inr rfl)) cd3.c cd3.m_leaves
      | .op=>z .op cd4.c cd4.m_leaves
      | .al=>z .al cd5.c cd5.m_leaves
      | .on=>z .on cd6.c cd6.m_leaves
  | succ n ih =>
    have hb:=ok_ben (P:=P) (w:=w) (base:=base) cd1 cd2 cd3 cd4 cd5 cd6 B
    exact fun k=>match k with
      | .ev=>ok_lvL .ev (.inl rfl) cd1.c cd1.m_leaves
      | .no=>ok_lvL .no (.inr (.inl rfl)) cd2.c cd2.m_leaves
      | .wi=>ok_lvL .wi (.inr (.inr rfl)) cd3.c cd3.m_leaves
      | .op=>ok_lvQ B .op rfl ih (hb .op) cd4.c cd4.m_leaves
      | .al=>ok_lvQ B .al rfl ih (hb .al) cd5.c cd5.m_leaves
      | .on=>ok_lvQ B .on rfl ih (hb .on) cd6.c cd6.m_leaves
theorem ok_dp (B:Blt mg):∀ n k,MethAt P w K mg base (C k) "depth" ["self"] (n+2) (spDp C N n k):=by
  intro n
  induction n with
  | zero =>
    have z:∀ k (c:Cls K (C k)),MDefAt K (C k) "depth" "Question.depth" s_Question_depth ["self"]→MethAt P w K mg base (C k) "depth" ["self"] 2 (spDp C N 0 k):=fun k c d=>MethAt.of c d sc_Question_depth (fun vs H Q E h=>by obtain ⟨t,v,G,rfl,_⟩:=h;rfl) (fun f cdv A outer s H vs Q E hr h=>by obtain ⟨t,v,G,rfl,_,_,_,_,hd,_⟩:=h;omega)
    exact fun k=>match k with
      | .ev=>ok_dpL .ev (.inl rfl) cd1.c cd1.m_depth
      | .no=>ok_dpL .no (.inr (.inl rfl)) cd2.c cd2.m_depth
      | .wi=>ok_dpL .wi (.inr (.inr rfl)) cd3.c cd3.m_depth
      | .op=>z .op cd4.c cd4.m_depth
      | .al=>z .al cd5.c cd5.m_depth
      | .on=>z .on cd6.c cd6.m_depth
  | succ n ih =>
    have hb:=ok_ben (P:=P) (w:=w) (base:=base) cd1 cd2 cd3 cd4 cd5 cd6 B
    exact fun k=>match k with
      | .ev=>ok_dpL .ev (.inl rfl) cd1.c cd1.m_depth
      | .no=>ok_dpL .no (.inr (.inl rfl)) cd2.c cd2.m_depth
      | .wi=>ok_dpL .wi (.inr (.inr rfl)) cd3.c cd3.m_depth
      | .op=>ok_dpQ B .op rfl ih (hb .op) cd4.c cd4.m_depth
      | .al=>ok_dpQ B .al rfl ih (hb .al) cd5.c cd5.m_depth
      | .on=>ok_dpQ B .on rfl ih (hb .on) cd6.c cd6.m_depth
theorem ok_mn (B:Blt mg):∀ n k,MethAt P w K mg base (C k) "mentions" ["self"] (n+2) (spMn C N n k):=by
  intro n
  induction n with
  | zero =>
    have z:∀ k (c:Cls K (C k)),MDefAt K (C k) "mentions" "Question.mentions" s_Question_mentions ["self"]→MethAt P w K mg base (C k) "mentions" ["self"] 2 (spMn C N 0 k):=fun k c d=>MethAt.of c d sc_Question_mentions (fun vs H Q E h=>by obtain ⟨t,v,G,rfl,_⟩:=h;rfl) (fun f cdv A outer s H vs Q E hr h=>by obtain ⟨t,v,G,rfl,_,_,_,_,hd,_⟩:=h;omega)
    exact fun k=>match k with
      | .ev=>z .ev cd1.c cd1.m_mentions
      | .no=>z .no cd2.c cd2.m_mentions
      | .wi=>ok_mnW cd3
      | .op=>z .op cd4.c cd4.m_mentions
      | .al=>z .al cd5.c cd5.m_mentions
      | .on=>z .on cd6.c cd6.m_mentions
  | succ n ih =>
    have hb:=ok_ben (P:=P) (w:=w) (base:=base) cd1 cd2 cd3 cd4 cd5 cd6 B
    exact fun k=>match k with
      | .ev=>ok_mnQ .ev (fun z=>by cases z) ih (hb .ev) cd1.c cd1.m_mentions
      | .no=>ok_mnQ .no (fun z=>by cases z) ih (hb .no) cd2.c cd2.m_mentions
      | .wi=>ok_mnW cd3
      | .op=>ok_mnQ .op (fun z=>by cases z) ih (hb .op) cd4.c cd4.m_mentions
      | .al=>ok_mnQ .al (fun z=>by cases z) ih (hb .al) cd5.c cd5.m_mentions
      | .on=>ok_mnQ .on (fun z=>by cases z) ih (hb .on) cd6.c cd6.m_mentions
end
def Off (x:Addr)(H H':Hp):Prop:=∀ b,b≠x→H' b=H b
def spIWi (C:Kd→Addr):Sp:=fun vs H Q _=>∃ (x dx:Addr) (nm:Str) (lo hi:Int),vs=[.ref x,.str nm,.int lo,.int hi]∧H x=some (.ins (C .wi) dx [])∧∀ H',Off x H H'→H' x=some (.ins (C .wi) dx [("name",.str nm),("low",.int lo),("high",.int hi)])→Q .non H'
def spIOp (C:Kd→Addr):Sp:=fun vs H Q _=>∃ (x dx:Addr) (u:V),vs=[.ref x,u]∧H x=some (.ins (C .op) dx [])∧∀ H',Off x H H'→H' x=some (.ins (C .op) dx [("one",u)])→Q .non H'
def spIPa (C:Kd→Addr)(k:Kd):Sp:=fun vs H Q _=>∃ (x dx p:Addr) (us:List V),vs=[.ref x,.ref p]∧H x=some (.ins (C k) dx [])∧H p=some (.lst us)∧∀ l H',H l=none→Off x (upd H l (.lst us)) H'→H' x=some (.ins (C k) dx [("parts",.ref l)])→Q .non H'
section
variable {P:Program}{w:World}{K:PySem.W.Frag}{mg:Str→Option Value}{base:Heap}{C:Kd→Addr}{N:List Str}{n:Nat}
theorem ok_iWi (cd:CD_Within K mg (C .wi)):MakeAt P w K mg base "Within" (C .wi) ["self","name","low","high"] 1 (spIWi C):=by
  refine MakeAt.of cd.at_ cd.init sc_Within___init__ (fun vs H Q E h=>?_) (fun f cdv A outer s H vs Q E hr h=>?_)
  · obtain ⟨x,dx,nm,lo,hi,rfl,_⟩:=h
    rfl
  obtain ⟨x,dx,nm,lo,hi,rfl,hx,q⟩:=h
  refine ⟨_,(pss_cons (ps_fldK K (pv 0) (pv 1))
      (pss_cons (ps_fldK K (pv 0) (pv 2))
      (pss_one (ps_fldK K (pv 0) (pv 3))))),?_⟩
  walk_at "vc"
  refine ⟨_,_,_,hx,cd.c,cd.n_name,by decide,_,_,_,upd_same,cd.c,cd.n_low,by show 1<1000;decide,_,_,_,upd_same,cd.c,cd.n_high,by show 2<1000;decide,q _ (fun b nb=>?_) upd_same⟩
  rw [upd_ne nb,upd_ne nb,upd_ne nb]
theorem ok_iOp (cd:CD_Opposite K mg (C .op)):MakeAt P w K mg base "Opposite" (C .op) ["self","one"] 1 (spIOp C):=by
  refine MakeAt.of cd.at_ cd.init sc_Opposite___init__ (fun vs H Q E h=>?_) (fun f cdv A outer s H vs Q E hr h=>?_)
  · obtain ⟨x,dx,u,rfl,_⟩:=h
    rfl
  obtain ⟨x,dx,u,rfl,hx,q⟩:=h
  refine ⟨_,(pss_one (ps_fldK K (pv 0) (pv 1))),?_⟩
  walk_at "vc"
  exact ⟨_,_,_,hx,cd.c,cd.n_one,by decide,q _ (fun b nb=>upd_ne nb) upd_same⟩
theorem ok_iAl (B:Blt mg)(cd:CD_AllOf K mg (C .al)):MakeAt P w K mg base "AllOf" (C .al) ["self","parts"] 1 (spIPa C .al):=by
  refine MakeAt.of cd.at_ cd.init sc_AllOf___init__ (fun vs H Q E h=>?_) (fun f cdv A outer s H vs Q E hr h=>?_)
  · obtain ⟨x,dx,p,us,rfl,_⟩:=h
    rfl
  obtain ⟨x,dx,p,us,rfl,hx,hp,q⟩:=h
  refine ⟨_,(pss_one (ps_fldK K (pv 0) (pe_callTy (call_listK K) rfl B.lst boot_list (pa_cons (pv 1) pa_nil)))),?_⟩
  walk_at "vc"
  refine ⟨_,.inl (SqL.of hp),fun l hl=>?_⟩
  have hx2:upd H l (.lst us) x=some (.ins (C .al) dx []):=by rw [upd_ne (ne_of_none hx hl)];exact hx
  exact ⟨_,_,_,hx2,cd.c,cd.n_parts,by decide,q l _ hl (fun b nb=>upd_ne nb) upd_same⟩
theorem ok_iOn (B:Blt mg)(cd:CD_OneOf K mg (C .on)):MakeAt P w K mg base "OneOf" (C .on) ["self","parts"] 1 (spIPa C .on):=by
  refine MakeAt.of cd.at_ cd.init sc_OneOf___init__ (fun vs H Q E h=>?_) (fun f cdv A outer s H vs Q E hr h=>?_)
  · obtain ⟨x,dx,p,us,rfl,_⟩:=h
    rfl
  obtain ⟨x,dx,p,us,rfl,hx,hp,q⟩:=h
  refine ⟨_,(pss_one (ps_fldK K (pv 0) (pe_callTy (call_listK K) rfl B.lst boot_list (pa_cons (pv 1) pa_nil)))),?_⟩
  walk_at "vc"
  refine ⟨_,.inl (SqL.of hp),fun l hl=>?_⟩
  have hx2:upd H l (.lst us) x=some (.ins (C .on) dx []):=by rw [upd_ne (ne_of_none hx hl)];exact hx
  exact ⟨_,_,_,hx2,cd.c,cd.n_parts,by decide,q l _ hl (fun b nb=>upd_ne nb) upd_same⟩
def spMade (K:PySem.W.Frag)(C:Kd→Addr)(N:List Str)(n:Nat):Sp:=fun vs H Q _=>∃ (t:T) (v:V),vs=[v]∧TrAt K H t v∧t.ok N∧t.dep<n∧∀ q H',Same H H'→QAt C (New H H') t q→Q q H'
def NewAt (K:PySem.W.Frag)(mg:Str→Option Value)(x:Str)(C:Addr):Prop:=mg x=some (.ref C)∧MkN K C
theorem same2 {H:Hp}{x dx:Addr}{o o':HO}(h1:H x=none)(h2:H dx=none)(h:dx≠x):Same H (upd (upd H dx o) x o'):=(Same.new h2).trans (Same.new (by rw [upd_ne (Ne.symm h)];exact h1))
theorem same_off {H H':Hp}{x dx:Addr}{o o':HO}(h1:H x=none)(h2:H dx=none)(off:Off x (upd (upd H dx o) x o') H'):Same H H':=fun b ob e=>by
  have nb:b≠x:=ne_of_none e h1
  rw [off b nb,upd_ne nb,upd_ne (ne_of_none e h2)]
  exact e
theorem pa_off {H H':Hp}{x dx l:Addr}{us:List V}{o o':HO}(h1:H x=none)(h2:H dx=none)(hl:upd (upd H dx o) x o' l=none)(off:Off x (upd (upd (upd H dx o) x o') l (.lst us)) H'):Same H H'∧H' l=some (.lst us)∧H l=none:=by
  have nx:l≠x:=fun z=>by rw [z,upd_same] at hl;cases hl
  have nd:l≠dx:=fun z=>by rw [upd_ne nx,z,upd_same] at hl;cases hl
  rw [upd_ne nx,upd_ne nd] at hl
  refine ⟨fun b ob e=>?_,?_,hl⟩
  · have nb:b≠x:=ne_of_none e h1
    rw [off b nb,upd_ne (ne_of_none e hl),upd_ne nb,upd_ne (ne_of_none e h2)]
    exact e
  · rw [off l nx,upd_same]
theorem del_new {H H2 H5:Hp}{D:Addr}(h:∀ b o,b≠D→H2 b=some o→H5 b=some o):Same (del (New H H2) D) (New H H5):=fun b o e=>by
  obtain ⟨n,e⟩:=del_some e
  obtain ⟨e1,e2⟩:=New.some e
  exact New.of e1 (h _ _ n e2)
theorem ok_made (n_Every:NewAt K mg "Every" (C .ev))(n_Nobody:NewAt K mg "Nobody" (C .no))(h_Within:MakeAt P w K mg base "Within" (C .wi) ["self","name","low","high"] 1 (spIWi C))(h_Opposite:MakeAt P w K mg base "Opposite" (C .op) ["self","one"] 1 (spIOp C))(h_AllOf:MakeAt P w K mg base "AllOf" (C .al) ["self","parts"] 1 (spIPa C .al))(h_OneOf:MakeAt P w K mg base "OneOf" (C .on) ["self","parts"] 1 (spIPa C .on))(d:DefAt K mg "_law_made" s_l_made ["_law_tree"]):∀ n,FnAt P w K mg base "_law_made" ["_law_tree"] (n+3) (spMade K C N n):=by
  intro n
  induction n with
  | zero=>exact FnAt.of d sc_l_made (fun vs H Q E h=>by obtain ⟨t,v,rfl,_⟩:=h;rfl) (fun f cdv A outer s H vs Q E hr h=>by obtain ⟨t,v,rfl,_,_,h,_⟩:=h;omega)
  | succ n h_l_made =>
    refine FnAt.of d sc_l_made (fun vs H Q E h=>?_) (fun f cdv A outer s H vs Q E hr h=>?_)
    · obtain ⟨t,v,rfl,_⟩:=h
      rfl
    obtain ⟨t,v,rfl,ht,ok,hd,q⟩:=h
    refine ⟨_,(pss_cons (ps_if (pt_cmpR op_eq (pe_ix (ix_tupK K) (pv 0) pe_int (fun _ _=>rfl)) pe_str (nomark _)) (pss_one (ps_ret (pe_new n_Every.2 rfl n_Every.1))) pss_nil)
      (pss_cons (ps_if (pt_cmpR op_eq (pe_ix (ix_tupK K) (pv 0) pe_int (fun _ _=>rfl)) pe_str (nomark _)) (pss_one (ps_ret (pe_new n_Nobody.2 rfl n_Nobody.1))) pss_nil)
      (pss_cons (ps_if (pt_cmpR op_eq (pe_ix (ix_tupK K) (pv 0) pe_int (fun _ _=>rfl)) pe_str (nomark _)) (pss_one (ps_ret (pe_makeF h_Within (hr.mono (by omega)) rfl (pa_cons (pe_ix (ix_tupK K) (pv 0) pe_int (fun _ _=>rfl)) (pa_cons (pe_ix (ix_tupK K) (pv 0) pe_int (fun _ _=>rfl)) (pa_cons (pe_ix (ix_tupK K) (pv 0) pe_int (fun _ _=>rfl)) pa_nil)))))) pss_nil)
      (pss_cons (ps_if (pt_cmpR op_eq (pe_ix (ix_tupK K) (pv 0) pe_int (fun _ _=>rfl)) pe_str (nomark _)) (pss_one (ps_ret (pe_makeF h_Opposite (hr.mono (by omega)) rfl (pa_cons (pe_callF h_l_made (hr.mono (by omega)) rfl (pa_cons (pe_ix (ix_tupK K) (pv 0) pe_int (fun _ _=>rfl)) pa_nil)) pa_nil)))) pss_nil)
      (pss_cons (ps_setcomp (i:=1) ["_law_part"] [] sc_l_made.nd rfl (by walk_at "l") rfl (pi_listK K (pe_ix (ix_tupK K) (pv 0) pe_int (fun _ _=>rfl))) (fun _ _ _ _ _=>pg_name (i:=0) (by show List.Nodup (["_law_part"]:List Str);decide +kernel) rfl (Or.inl rfl)) (fun _ _ _ _ _=>pts_nil) (fun _ _ _ _ _=>(pe_callF h_l_made (hr.mono (by omega)) rfl (pa_cons (pv 0) pa_nil))) trivial gOwn_name)
      (pss_cons (ps_if (pt_cmpR op_eq (pe_ix (ix_tupK K) (pv 0) pe_int (fun _ _=>rfl)) pe_str (nomark _)) (pss_one (ps_ret (pe_makeF h_AllOf (hr.mono (by omega)) rfl (pa_cons (pv 1) pa_nil)))) pss_nil)
      (pss_one (ps_ret (pe_makeF h_OneOf (hr.mono (by omega)) rfl (pa_cons (pv 1) pa_nil)))))))))),?_⟩
    cases t with
    | ev =>
      obtain ⟨p,rfl,hp⟩:=ht
      walk_at "vc"
      refine ⟨_,hp,_,rfl,rfl,?_⟩
      rw [if_pos rfl]
      exact fun x dx h1 h2 h3=>q _ _ (same2 h1 h2 h3) ⟨x,dx,rfl,New.of h1 upd_same⟩
    | no =>
      obtain ⟨p,rfl,hp⟩:=ht
      walk_at "vc"
      refine ⟨_,hp,_,rfl,rfl,?_⟩
      rw [if_neg (by decide +kernel)]
      refine ⟨_,hp,_,rfl,rfl,?_⟩
      rw [if_pos rfl]
      exact fun x dx h1 h2 h3=>q _ _ (same2 h1 h2 h3) ⟨x,dx,rfl,New.of h1 upd_same⟩
    | inn nm lo hi =>
      obtain ⟨p,rfl,hp⟩:=ht
      walk_at "vc"
      refine ⟨_,hp,_,rfl,rfl,?_⟩
      rw [if_neg (by decide +kernel)]
      refine ⟨_,hp,_,rfl,rfl,?_⟩
      rw [if_neg (by decide +kernel)]
      refine ⟨_,hp,_,rfl,rfl,?_⟩
      rw [if_pos rfl]
      refine ⟨_,hp,_,rfl,_,hp,_,rfl,_,hp,_,rfl,?_⟩
      refine fun x dx h1 h2 h3=>⟨x,dx,nm,lo,hi,rfl,upd_same,fun H' off hx=>⟨rfl,?_⟩⟩
      exact q _ _ (same_off h1 h2 off) ⟨x,dx,rfl,New.of h1 hx⟩
    | opp t =>
      obtain ⟨p,u,rfl,hp,hu⟩:=ht
      walk_at "vc"
      refine ⟨_,hp,_,rfl,rfl,?_⟩
      rw [if_neg (by decide +kernel)]
      refine ⟨_,hp,_,rfl,rfl,?_⟩
      rw [if_neg (by decide +kernel)]
      refine ⟨_,hp,_,rfl,rfl,?_⟩
      rw [if_neg (by decide +kernel)]
      refine ⟨_,hp,_,rfl,rfl,?_⟩
      rw [if_pos rfl]
      refine ⟨_,hp,_,rfl,t,u,rfl,hu,ok,Nat.lt_of_succ_lt_succ hd,fun v1 H1 s1 q1=>?_⟩
      refine fun x dx h1 h2 h3=>⟨x,dx,v1,rfl,upd_same,fun H' off hx=>⟨rfl,?_⟩⟩
      have s2:=same_off h1 h2 off
      refine q _ _ (s1.trans s2) ⟨x,dx,v1,rfl,New.of ?_ hx,QAt.same (New.same s2) t q1⟩
      cases e:H x with
      | none=>rfl
      | some o=>rw [s1 _ _ e] at h1;cases h1
    | al ts =>
      obtain ⟨p,l,us,rfl,hp,hl,hu⟩:=ht
      have dp:ts.dep<n:=Nat.lt_of_succ_lt_succ hd
      have ln:=TrsAt.len ts hu
      have l0:=ok.1
      walk_at "vc"
      refine ⟨_,hp,_,rfl,rfl,?_⟩
      rw [if_neg (by decide +kernel)]
      refine ⟨_,hp,_,rfl,rfl,?_⟩
      rw [if_neg (by decide +kernel)]
      refine ⟨_,hp,_,rfl,rfl,?_⟩
      rw [if_neg (by decide +kernel)]
      refine ⟨_,hp,_,rfl,rfl,?_⟩
      rw [if_neg (by decide +kernel)]
      refine ⟨_,hp,_,rfl,l,rfl,⟨_,hl⟩,compA (xs:=us) (fun i y H=>∀ t,ts.toL[i]?=some t→QAt C H t y) (fun i y H H' s h t ht=>QAt.same s t (h t ht)) hl (by omega) (fun i x H2 R hx s2 q2=>?_) (fun D ys H2 hD s2 h2 l2 h3=>?_)⟩
      · obtain ⟨t,ht,htr⟩:=TrsAt.at ts hu hx
        have tm:=List.mem_of_getElem? ht
        walk_at "vc"
        refine ⟨t,x,rfl,TrAt.same s2 t htr,Ts.ok_mem ts ok.2 tm,Nat.lt_of_le_of_lt (Ts.dep_le ts tm) dp,fun v1 H3 s3 q3=>q2 _ H3 s3 fun t' ht'=>?_⟩
        cases ht.symm.trans ht'
        exact q3
      · have qs:QsAt C (del (New H H2) D) ts ys:=QsAt.mk ts (by omega) fun i u t hu ht=>h3 i u hu t ht
        refine ⟨_,sqT_same s2 hp,_,rfl,rfl,?_⟩
        rw [if_pos rfl]
        refine fun x dx h1 h2' hne=>⟨x,dx,D,ys,rfl,upd_same,?_,fun l1 H3 hl1 off hx=>⟨rfl,?_⟩⟩
        · rw [upd_ne (ne_of_none h2 h1),upd_ne (ne_of_none h2 h2')]
          exact h2
        obtain ⟨s3,g3,n3⟩:=pa_off h1 h2' hl1 off
        have hn:∀ b,H2 b=none→H b=none:=fun b hb=>by
          cases e:H b with
          | none=>rfl
          | some o=>rw [s2 _ _ e] at hb;cases hb
        exact q _ _ (s2.trans s3) ⟨x,dx,l1,ys,rfl,New.of (hn _ h1) hx,New.of (hn _ n3) g3,QsAt.same (del_new fun b o nb e=>s3 _ _ e) ts qs⟩
    | on ts =>
      obtain ⟨p,l,us,rfl,hp,hl,hu⟩:=ht
      have dp:ts.dep<n:=Nat.lt_of_succ_lt_succ hd
      have ln:=TrsAt.len ts hu
      have l0:=ok.1
      walk_at "vc"
      refine ⟨_,hp,_,rfl,rfl,?_⟩
      rw [if_neg (by decide +kernel)]
      refine ⟨_,hp,_,rfl,rfl,?_⟩
      rw [if_neg (by decide +kernel)]
      refine ⟨_,hp,_,rfl,rfl,?_⟩
      rw [if_neg (by decide +kernel)]
      refine ⟨_,hp,_,rfl,rfl,?_⟩
      rw [if_neg (by decide +kernel)]
      refine ⟨_,hp,_,rfl,l,rfl,⟨_,hl⟩,compA (xs:=us) (fun i y H=>∀ t,ts.toL[i]?=some t→QAt C H t y) (fun i y H H' s h t ht=>QAt.same s t (h t ht)) hl (by omega) (fun i x H2 R hx s2 q2=>?_) (fun D ys H2 hD s2 h2 l2 h3=>?_)⟩
      · obtain ⟨t,ht,htr⟩:=TrsAt.at ts hu hx
        have tm:=List.mem_of_getElem? ht
        walk_at "vc"
        refine ⟨t,x,rfl,TrAt.same s2 t htr,Ts.ok_mem ts ok.2 tm,Nat.lt_of_le_of_lt (Ts.dep_le ts tm) dp,fun v1 H3 s3 q3=>q2 _ H3 s3 fun t' ht'=>?_⟩
        cases ht.symm.trans ht'
        exact q3
      · have qs:QsAt C (del (New H H2) D) ts ys:=QsAt.mk ts (by omega) fun i u t hu ht=>h3 i u hu t ht
        refine ⟨_,sqT_same s2 hp,_,rfl,rfl,?_⟩
        rw [if_neg (by decide +kernel)]
        refine fun x dx h1 h2' hne=>⟨x,dx,D,ys,rfl,upd_same,?_,fun l1 H3 hl1 off hx=>⟨rfl,?_⟩⟩
        · rw [upd_ne (ne_of_none h2 h1),upd_ne (ne_of_none h2 h2')]
          exact h2
        obtain ⟨s3,g3,n3⟩:=pa_off h1 h2' hl1 off
        have hn:∀ b,H2 b=none→H b=none:=fun b hb=>by
          cases e:H b with
          | none=>rfl
          | some o=>rw [s2 _ _ e] at hb;cases hb
        exact q _ _ (s2.trans s3) ⟨x,dx,l1,ys,rfl,New.of (hn _ h1) hx,New.of (hn _ n3) g3,QsAt.same (del_new fun b o nb e=>s3 _ _ e) ts qs⟩
end
def spMeas (K:PySem.W.Frag)(n:Nat):Sp:=fun vs H Q _=>∃ (t:T) (v:V),vs=[v]∧TrAt K H t v∧t.dep<n∧t.nums.length≤10000∧∀ p l H',Same H H'→H' p=some (.tup [.int t.lv,.int t.dep,.ref l])→H' l=some (.lst (t.mn.map V.str))→Q (.ref p) H'
def fstL (ts:Ts)(i:Nat):Nat:=(Ts.ofL (ts.toL.take i)).lv
def fstD (ts:Ts)(i:Nat):Nat:=(Ts.ofL (ts.toL.take i)).dep
theorem Ts.lv_app:∀ (l:List T) (t:T),(Ts.ofL (l++[t])).lv=(Ts.ofL l).lv+t.lv
  | [],t=>by show t.lv+0=0+t.lv;omega
  | x::r,t=>by
    show x.lv+(Ts.ofL (r++[t])).lv=x.lv+(Ts.ofL r).lv+t.lv
    rw [Ts.lv_app r t]
    omega
theorem Ts.dep_app:∀ (l:List T) (t:T),(Ts.ofL (l++[t])).dep=max (Ts.ofL l).dep t.dep
  | [],t=>by show max t.dep 0=max 0 t.dep;exact Nat.max_comm _ _
  | x::r,t=>by
    show max x.dep (Ts.ofL (r++[t])).dep=max (max x.dep (Ts.ofL r).dep) t.dep
    rw [Ts.dep_app r t,Nat.max_assoc]
theorem Ts.ofL_toL:∀ ts:Ts,Ts.ofL ts.toL=ts
  | .nil=>rfl
  | .cons t r=>congrArg (Ts.cons t) (Ts.ofL_toL r)
theorem take_snoc {α:Type}{l:List α}{i:Nat}{x:α}(h:l[i]?=some x):l.take (i+1)=l.take i++[x]:=by rw [List.take_add_one,h];rfl
structure MsI (ts:Ts)(v:V)(H:Hp)(i:Nat)(σ:L2.St)(H':Hp):Prop where
  ex:∃ (p l:Addr) (v1 v2 v3 v5:Option V),σ=[some v,v1,v2,v3,some (.ref p),v5]∧H' p=some (.lst [.int (fstL ts i),.int (fstD ts i),.ref l])∧H' l=some (.lst ((fstM ts i).map V.str))
  sm:Same H H'
section
variable {P:Program}{w:World}{K:PySem.W.Frag}{mg:Str→Option Value}{base:Heap}
theorem ok_meas (B:Blt mg)(d:DefAt K mg "_law_measure" s_l_measure ["_law_tree"]):∀ n,FnAt P w K mg base "_law_measure" ["_law_tree"] (n+1) (spMeas K n):=by
  intro n
  induction n with
  | zero=>exact FnAt.of d sc_l_measure (fun vs H Q E h=>by obtain ⟨t,v,rfl,_⟩:=h;rfl) (fun f cdv A outer s H vs Q E hr h=>by obtain ⟨t,v,rfl,_,h,_⟩:=h;omega)
  | succ n h_l_measure =>
    refine FnAt.of d sc_l_measure (fun vs H Q E h=>?_) (fun f cdv A outer s H vs Q E hr h=>?_)
    · obtain ⟨t,v,rfl,_⟩:=h
      rfl
    obtain ⟨t,v,rfl,ht,hd,hl,q⟩:=h
    refine ⟨_,(pss_cons (ps_if (PW.pt (pw_or (pt_cmpR op_eq (pe_ix (ix_tupK K) (pv 0) pe_int (fun _ _=>rfl)) pe_str (nomark _)) (pw_or1 (pt_cmpR op_eq (pe_ix (ix_tupK K) (pv 0) pe_int (fun _ _=>rfl)) pe_str (nomark _))))) (pss_one (ps_ret (pe_tup (pa_cons pe_int (pa_cons pe_int (pa_cons (pe_lst pa_nil) pa_nil)))))) pss_nil)
      (pss_cons (ps_if (pt_cmpR op_eq (pe_ix (ix_tupK K) (pv 0) pe_int (fun _ _=>rfl)) pe_str (nomark _)) (pss_one (ps_ret (pe_tup (pa_cons pe_int (pa_cons pe_int (pa_cons (pe_lst (pa_cons (pe_ix (ix_tupK K) (pv 0) pe_int (fun _ _=>rfl)) pa_nil)) pa_nil)))))) pss_nil)
      (pss_cons (ps_if (pt_cmpR op_eq (pe_ix (ix_tupK K) (pv 0) pe_int (fun _ _=>rfl)) pe_str (nomark _)) (pss_cons (ps_asg (pe_callF h_l_measure (hr.mono (by omega)) rfl (pa_cons (pe_ix (ix_tupK K) (pv 0) pe_int (fun _ _=>rfl)) pa_nil)) (pg_tupK K rfl (pgs_cons (pg_name (i:=1) sc_l_measure.nd rfl (by walk_at "l")) (pgs_cons (pg_name (i:=2) sc_l_measure.nd rfl (by walk_at "l")) (pgs_cons (pg_name (i:=3) sc_l_measure.nd rfl (by walk_at "l")) pgs_nil)))))
      (pss_one (ps_ret (pe_tup (pa_cons (pv 1) (pa_cons (pe_op op_add (pv 2) pe_int) (pa_cons (pv 3) pa_nil))))))) pss_nil)
      (pss_cons (ps_set (i:=4) sc_l_measure.nd rfl (by walk_at "l") (pe_lst (pa_cons pe_int (pa_cons pe_int (pa_cons (pe_lst pa_nil) pa_nil)))))
      (pss_cons (ps_for PassesOwn.never rfl (pi_listK K (pe_ix (ix_tupK K) (pv 0) pe_int (fun _ _=>rfl))) (pg_name (i:=5) sc_l_measure.nd rfl (by walk_at "l")) (pss_cons (ps_asg (pe_callF h_l_measure (hr.mono (by omega)) rfl (pa_cons (pv 5) pa_nil)) (pg_tupK K rfl (pgs_cons (pg_name (i:=1) sc_l_measure.nd rfl (by walk_at "l")) (pgs_cons (pg_name (i:=2) sc_l_measure.nd rfl (by walk_at "l")) (pgs_cons (pg_name (i:=3) sc_l_measure.nd rfl (by walk_at "l")) pgs_nil)))))
      (pss_one (ps_set (i:=4) sc_l_measure.nd rfl (by walk_at "l") (pe_lst (pa_cons (pe_op op_add (pe_ix (ix_listK K) (pv 4) pe_int (fun _ _=>rfl)) (pv 1)) (pa_cons (pe_callB (call_max2 rfl) rfl B.max boot_maxB (pa_cons (pe_ix (ix_listK K) (pv 4) pe_int (fun _ _=>rfl)) (pa_cons (pv 2) pa_nil))) (pa_cons (pe_op op_cat (pe_ix (ix_listK K) (pv 4) pe_int (fun _ _=>rfl)) (pv 3)) pa_nil))))))))
      (pss_one (ps_ret (pe_tup (pa_cons (pe_ix (ix_listK K) (pv 4) pe_int (fun _ _=>rfl)) (pa_cons (pe_op op_add (pe_ix (ix_listK K) (pv 4) pe_int (fun _ _=>rfl)) pe_int) (pa_cons (pe_ix (ix_listK K) (pv 4) pe_int (fun _ _=>rfl)) pa_nil))))))))))),?_⟩
    cases t with
    | ev =>
      obtain ⟨p,rfl,hp⟩:=ht
      walk_at "vc"
      refine ⟨_,hp,_,rfl,rfl,?_⟩
      rw [if_pos rfl]
      exact ⟨Nat.zero_le _,fun p1 f1=>⟨by decide,fun p2 f2=>q p2 p1 _ ((Same.new f1).trans (Same.new f2)) upd_same (Same.new f2 _ _ upd_same)⟩⟩
    | no =>
      obtain ⟨p,rfl,hp⟩:=ht
      walk_at "vc"
      refine ⟨_,hp,_,rfl,rfl,?_⟩
      rw [if_neg (by decide +kernel)]
      refine ⟨_,hp,_,rfl,rfl,?_⟩
      rw [if_pos rfl]
      exact ⟨Nat.zero_le _,fun p1 f1=>⟨by decide,fun p2 f2=>q p2 p1 _ ((Same.new f1).trans (Same.new f2)) upd_same (Same.new f2 _ _ upd_same)⟩⟩
    | inn x lo hi =>
      obtain ⟨p,rfl,hp⟩:=ht
      walk_at "vc"
      refine ⟨_,hp,_,rfl,rfl,?_⟩
      rw [if_neg (by decide +kernel)]
      refine ⟨_,hp,_,rfl,rfl,?_⟩
      rw [if_neg (by decide +kernel)]
      refine ⟨_,hp,_,rfl,rfl,?_⟩
      rw [if_pos rfl]
      exact ⟨_,hp,_,rfl,by decide,fun p1 f1=>⟨by decide,fun p2 f2=>q p2 p1 _ ((Same.new f1).trans (Same.new f2)) upd_same (Same.new f2 _ _ upd_same)⟩⟩
    | opp t =>
      obtain ⟨p,u,rfl,hp,hu⟩:=ht
      walk_at "vc"
      refine ⟨_,hp,_,rfl,rfl,?_⟩
      rw [if_neg (by decide +kernel)]
      refine ⟨_,hp,_,rfl,rfl,?_⟩
      rw [if_neg (by decide +kernel)]
      refine ⟨_,hp,_,rfl,rfl,?_⟩
      rw [if_neg (by decide +kernel)]
      refine ⟨_,hp,_,rfl,rfl,?_⟩
      rw [if_pos rfl]
      refine ⟨_,hp,_,rfl,t,u,rfl,hu,Nat.lt_of_succ_lt_succ hd,hl,fun p1 l1 H1 s1 h1 k1=>?_⟩
      exact ⟨p1,rfl,_,.inl (.inl h1),rfl,_,_,rfl,_,_,rfl,_,_,rfl,rfl,_,rfl,by decide,fun p2 f2=>q p2 l1 _ (s1.trans (Same.new f2)) upd_same (Same.new f2 _ _ k1)⟩
    | al ts =>
      obtain ⟨p,l,us,rfl,hp,hl',hu⟩:=ht
      have hd:ts.dep<n:=Nat.lt_of_succ_lt_succ hd
      have ln:=TrsAt.len ts hu
      walk_at "vc"
      refine ⟨_,hp,_,rfl,rfl,?_⟩
      rw [if_neg (by decide +kernel)]
      refine ⟨_,hp,_,rfl,rfl,?_⟩
      rw [if_neg (by decide +kernel)]
      refine ⟨_,hp,_,rfl,rfl,?_⟩
      rw [if_neg (by decide +kernel)]
      refine ⟨_,hp,_,rfl,rfl,?_⟩
      rw [if_neg (by decide +kernel)]
      refine ⟨Nat.zero_le _,fun p1 f1=>⟨by decide,fun p2 f2=>?_⟩⟩
      have s2:=(Same.new (o:=.lst []) f1).trans (Same.new (o:=.lst [V.int 0,V.int 0,V.ref p1]) f2)
      refine ⟨_,sqT_same s2 hp,_,rfl,l,rfl,⟨_,s2.seq hl'⟩,loopL (K:=K) (xs:=us) (MsI ts (.ref p) H) ⟨⟨p2,p1,_,_,_,_,rfl,upd_same,Same.new f2 _ _ upd_same⟩,s2⟩ (fun i σ H' _ h=>h.sm.seq hl') ?_ ?_⟩
      · rintro i u σ H2 hu2 ⟨⟨pt,lt,v1,v2,v3,v5,rfl,ht2,hl2⟩,s2⟩
        obtain ⟨t,ht,htr⟩:=TrsAt.at ts hu hu2
        have tm:=List.mem_of_getElem? ht
        have tn:=Ts.nums_mem ts tm
        have ml:=Ts.mn_le ts
        have st:=fstM_step ht
        have le:=fstM_le ts (i+1)
        have hl:ts.nums.length≤10000:=hl
        rw [st,List.length_append] at le
        walk_at "vc"
        refine ⟨t,u,rfl,TrAt.same s2 _ htr,Nat.lt_of_le_of_lt (Ts.dep_le ts tm) hd,by omega,fun p3 l3 H3 s3 h3 k3=>?_⟩
        refine ⟨p3,rfl,_,.inl (.inl h3),rfl,_,_,rfl,_,_,rfl,_,_,rfl,rfl,?_⟩
        have e3:((fstL ts i:Int)+(t.lv:Int))=(fstL ts (i+1):Nat):=by
          unfold fstL
          rw [take_snoc ht,Ts.lv_app]
          omega
        have e4:(if (t.dep:Int) > (fstD ts i:Int) then (t.dep:Int) else (fstD ts i:Int))=(fstD ts (i+1):Nat):=by
          have e5:fstD ts (i+1)=max (fstD ts i) t.dep:=by
            unfold fstD
            rw [take_snoc ht,Ts.dep_app]
          rw [e5]
          split<;>omega
        refine ⟨_,SqL.of (s3 _ _ ht2),_,rfl,_,rfl,_,rfl,_,SqL.of (s3 _ _ ht2),_,rfl,_,_,⟨rfl,rfl⟩,_,SqL.of (s3 _ _ ht2),_,rfl,_,rfl,_,rfl,_,s3 _ _ hl2,_,k3,small5 (by rw [List.length_map,List.length_map];omega),fun p4 f4=>⟨by decide,fun p5 f5=>⟨⟨p5,p4,_,_,_,_,rfl,?_,?_⟩,((s2.trans s3).trans (Same.new f4)).trans (Same.new f5)⟩⟩⟩
        · rw [upd_same,e3,e4]
        · rw [st,List.map_append]
          exact Same.new f5 _ _ upd_same
      · rintro σ H2 ⟨⟨pt,lt,v1,v2,v3,v5,rfl,ht2,hl2⟩,s2⟩
        rw [ln] at ht2 hl2
        have e1:fstL ts ts.toL.length=ts.lv:=by unfold fstL;rw [List.take_length,Ts.ofL_toL]
        have e2:fstD ts ts.toL.length=ts.dep:=by unfold fstD;rw [List.take_length,Ts.ofL_toL]
        rw [e1,e2] at ht2
        rw [fstM_all] at hl2
        walk_at "vc"
        exact ⟨_,SqL.of ht2,_,rfl,_,SqL.of ht2,_,rfl,_,rfl,_,SqL.of ht2,_,rfl,by decide,fun p9 f9=>q p9 lt _ (s2.trans (Same.new f9)) upd_same (Same.new f9 _ _ hl2)⟩
    | on ts =>
      obtain ⟨p,l,us,rfl,hp,hl',hu⟩:=ht
      have hd:ts.dep<n:=Nat.lt_of_succ_lt_succ hd
      have ln:=TrsAt.len ts hu
      walk_at "vc"
      refine ⟨_,hp,_,rfl,rfl,?_⟩
      rw [if_neg (by decide +kernel)]
      refine ⟨_,hp,_,rfl,rfl,?_⟩
      rw [if_neg (by decide +kernel)]
      refine ⟨_,hp,_,rfl,rfl,?_⟩
      rw [if_neg (by decide +kernel)]
      refine ⟨_,hp,_,rfl,rfl,?_⟩
      rw [if_neg (by decide +kernel)]
      refine ⟨Nat.zero_le _,fun p1 f1=>⟨by decide,fun p2 f2=>?_⟩⟩
      have s2:=(Same.new (o:=.lst []) f1).trans (Same.new (o:=.lst [V.int 0,V.int 0,V.ref p1]) f2)
      refine ⟨_,sqT_same s2 hp,_,rfl,l,rfl,⟨_,s2.seq hl'⟩,loopL (K:=K) (xs:=us) (MsI ts (.ref p) H) ⟨⟨p2,p1,_,_,_,_,rfl,upd_same,Same.new f2 _ _ upd_same⟩,s2⟩ (fun i σ H' _ h=>h.sm.seq hl') ?_ ?_⟩
      · rintro i u σ H2 hu2 ⟨⟨pt,lt,v1,v2,v3,v5,rfl,ht2,hl2⟩,s2⟩
        obtain ⟨t,ht,htr⟩:=TrsAt.at ts hu hu2
        have tm:=List.mem_of_getElem? ht
        have tn:=Ts.nums_mem ts tm
        have ml:=Ts.mn_le ts
        have st:=fstM_step ht
        have le:=fstM_le ts (i+1)
        have hl:ts.nums.length≤10000:=hl
        rw [st,List.length_append] at le
        walk_at "vc"
        refine ⟨t,u,rfl,TrAt.same s2 _ htr,Nat.lt_of_le_of_lt (Ts.dep_le ts tm) hd,by omega,fun p3 l3 H3 s3 h3 k3=>?_⟩
        refine ⟨p3,rfl,_,.inl (.inl h3),rfl,_,_,rfl,_,_,rfl,_,_,rfl,rfl,?_⟩
        have e3:((fstL ts i:Int)+(t.lv:Int))=(fstL ts (i+1):Nat):=by
          unfold fstL
          rw [take_snoc ht,Ts.lv_app]
          omega
        have e4:(if (t.dep:Int) > (fstD ts i:Int) then (t.dep:Int) else (fstD ts i:Int))=(fstD ts (i+1):Nat):=by
          have e5:fstD ts (i+1)=max (fstD ts i) t.dep:=by
            unfold fstD
            rw [take_snoc ht,Ts.dep_app]
          rw [e5]
          split<;>omega
        refine ⟨_,SqL.of (s3 _ _ ht2),_,rfl,_,rfl,_,rfl,_,SqL.of (s3 _ _ ht2),_,rfl,_,_,⟨rfl,rfl⟩,_,SqL.of (s3 _ _ ht2),_,rfl,_,rfl,_,rfl,_,s3 _ _ hl2,_,k3,small5 (by rw [List.length_map,List.length_map];omega),fun p4 f4=>⟨by decide,fun p5 f5=>⟨⟨p5,p4,_,_,_,_,rfl,?_,?_⟩,((s2.trans s3).trans (Same.new f4)).trans (Same.new f5)⟩⟩⟩
        · rw [upd_same,e3,e4]
        · rw [st,List.map_append]
          exact Same.new f5 _ _ upd_same
      · rintro σ H2 ⟨⟨pt,lt,v1,v2,v3,v5,rfl,ht2,hl2⟩,s2⟩
        rw [ln] at ht2 hl2
        have e1:fstL ts ts.toL.length=ts.lv:=by unfold fstL;rw [List.take_length,Ts.ofL_toL]
        have e2:fstD ts ts.toL.length=ts.dep:=by unfold fstD;rw [List.take_length,Ts.ofL_toL]
        rw [e1,e2] at ht2
        rw [fstM_all] at hl2
        walk_at "vc"
        exact ⟨_,SqL.of ht2,_,rfl,_,SqL.of ht2,_,rfl,_,rfl,_,SqL.of ht2,_,rfl,by decide,fun p9 f9=>q p9 lt _ (s2.trans (Same.new f9)) upd_same (Same.new f9 _ _ hl2)⟩
end
section
variable {K:PySem.W.Frag}{H:Hp}
theorem rds_strs:∀ xs:List Str,RdDs K H (xs.map V.str) (xs.map PyData.str)
  | []=>.nil
  | x::r=>.cons (.str x) (rds_strs r)
theorem lay_strs:∀ {xs:List Str},(∀ x∈xs,PyData.strOk x=true)→PyData.canLayAll0 (xs.map PyData.str)=true
  | [],_=>lay_nil
  | x::r,h=>lay_cons (lay_str (h x (.head _))) (lay_strs fun y hy=>h y (.tail _ hy))
theorem dep_strs:∀ xs:List Str,PyData.depthAll (xs.map PyData.str)=0
  | []=>dep_nil
  | x::r=>by rw [List.map_cons,dep_cons,dep_str,dep_strs r];rfl
theorem mix_strs:∀ xs:List Str,SeqAt.noMixAll (xs.map PyData.str) (xs.map PyData.str)=true
  | []=>by unfold SeqAt.noMixAll;rfl
  | x::r=>by
    rw [List.map_cons]
    unfold SeqAt.noMixAll
    rw [mix_strs r]
    unfold SeqAt.noMix
    rfl
theorem same_strs:∀ xs:List Str,Spec.sameAll (xs.map PyData.str) (xs.map PyData.str)=true
  | []=>by unfold Spec.sameAll;rfl
  | x::r=>by
    rw [List.map_cons]
    unfold Spec.sameAll
    rw [same_strs r]
    unfold Spec.same
    simp
theorem strs_cmp {a b:Addr}{xs:List Str}(h:∀ x∈xs,PyData.strOk x=true)(ha:SqL K H a (xs.map V.str))(hb:SqL K H b (xs.map V.str)):∃ d e,RdD K H (.ref a) d∧RdD K H (.ref b) e∧SeqAt.shaped d=true∧SeqAt.shaped e=true∧SeqAt.noMix d e=true∧PySem.Spec.same d e=true:=by
  have sh:SeqAt.shaped (PyData.list (xs.map PyData.str))=true:=shp (lay_lst (lay_strs h)) (by rw [dep_lst,dep_strs];decide)
  refine ⟨_,_,.lst ha (rds_strs xs),.lst hb (rds_strs xs),sh,sh,?_,?_⟩
  · unfold SeqAt.noMix
    exact mix_strs xs
  · unfold Spec.same
    exact same_strs xs
theorem rNeD_strs {a b:Addr}{xs:List Str}{Q:VK}(h:∀ x∈xs,PyData.strOk x=true)(ha:SqL K H a (xs.map V.str))(hb:SqL K H b (xs.map V.str))(q:Q (.bl false) H):rNeD K (.ref a) (.ref b) H Q:=by
  obtain ⟨d,e,h1,h2,h3,h4,h5,h6⟩:=strs_cmp h ha hb
  exact ⟨d,e,h1,h2,h3,h4,h5,by rw [h6];exact q⟩
theorem rEqD_strs {a b:Addr}{xs:List Str}{Q:VK}(h:∀ x∈xs,PyData.strOk x=true)(ha:SqL K H a (xs.map V.str))(hb:SqL K H b (xs.map V.str))(q:Q (.bl true) H):rEqD K (.ref a) (.ref b) H Q:=by
  obtain ⟨d,e,h1,h2,h3,h4,h5,h6⟩:=strs_cmp h ha hb
  exact ⟨d,e,h1,h2,h3,h4,h5,by rw [h6];exact q⟩
end
mutual
theorem T.mn_ok {N:List Str}:∀ {t:T},t.ok N→∀ x∈t.mn,x∈N
  | .ev,_,x,h=>by cases h
  | .no,_,x,h=>by cases h
  | .inn y _ _,o,x,h=>by
    rw [List.mem_singleton.mp h]
    exact o
  | .opp t,o,x,h=>T.mn_ok (t:=t) o x h
  | .al ts,o,x,h=>Ts.mn_ok (ts:=ts) o.2 x h
  | .on ts,o,x,h=>Ts.mn_ok (ts:=ts) o.2 x h
theorem Ts.mn_ok {N:List Str}:∀ {ts:Ts},ts.ok N→∀ x∈ts.mn,x∈N
  | .nil,_,x,h=>by cases h
  | .cons t r,o,x,h=>by
    unfold Ts.ok at o
    rcases List.mem_append.mp (show x∈t.mn++r.mn from h) with h | h
    · exact T.mn_ok o.1 x h
    · exact Ts.mn_ok o.2 x h
end
def spCounted (K:PySem.W.Frag)(C:Kd→Addr)(N:List Str):Sp:=fun vs H Q _=>∃ (t:T) (qu v:V),vs=[qu,v]∧QAt C H t qu∧TrAt K H t v∧t.ok N∧t.dep<20∧t.nums.length≤1000∧∀ H',Same H H'→Q (.bl true) H'
section
variable {P:Program}{w:World}{K:PySem.W.Frag}{mg:Str→Option Value}{base:Heap}{C:Kd→Addr}{N:List Str}
theorem ok_counted (B:Blt mg)(hN:∀ x∈N,PyData.strOk x=true)(h_l_whole:FnAt P w K mg base "_law_whole" ["_law_found"] 1 spWhole)(h_l_measure:FnAt P w K mg base "_law_measure" ["_law_tree"] 21 (spMeas K 20))(hlv:∀ k,MethAt P w K mg base (C k) "leaves" ["self"] 22 (spLv C N 20 k))(hdp:∀ k,MethAt P w K mg base (C k) "depth" ["self"] 22 (spDp C N 20 k))(hmn:∀ k,MethAt P w K mg base (C k) "mentions" ["self"] 22 (spMn C N 20 k))(d:DefAt K mg "_law_counted" s_l_counted ["_law_question","_law_tree"]):FnAt P w K mg base "_law_counted" ["_law_question","_law_tree"] 24 (spCounted K C N):=by
  refine FnAt.of d sc_l_counted (fun vs H Q E h=>?_) (fun f cdv A outer s H vs Q E hr h=>?_)
  · obtain ⟨t,qu,v,rfl,_⟩:=h
    rfl
  obtain ⟨t,qu,v,rfl,hq,ht,ok,hd,hn,q⟩:=h
  refine ⟨_,(pss_cons (ps_asg (pe_callF h_l_measure (hr.mono (by decide)) rfl (pa_cons (pv 1) pa_nil)) (pg_tupK K rfl (pgs_cons (pg_name (i:=2) sc_l_counted.nd rfl (by walk_at "l")) (pgs_cons (pg_name (i:=3) sc_l_counted.nd rfl (by walk_at "l")) (pgs_cons (pg_name (i:=4) sc_l_counted.nd rfl (by walk_at "l")) pgs_nil)))))
      (pss_cons (ps_if (PW.pt (pw_or (pt_not (pt_val (pe_callF h_l_whole (hr.mono (by decide)) rfl (pa_cons (pe_meD0 (P:=P) (w:=w) (K:=K) (mg:=mg) (base:=base) 22 (hr.mono (by omega)) (pv 0)) pa_nil)))) (pw_or1 (pt_cmpR op_ne (pe_meD0 (P:=P) (w:=w) (K:=K) (mg:=mg) (base:=base) 22 (hr.mono (by omega)) (pv 0)) (pv 2) (nomark _))))) (pss_one (ps_ret pe_bl)) pss_nil)
      (pss_cons (ps_if (PW.pt (pw_or (pt_not (pt_val (pe_callF h_l_whole (hr.mono (by decide)) rfl (pa_cons (pe_meD0 (P:=P) (w:=w) (K:=K) (mg:=mg) (base:=base) 22 (hr.mono (by omega)) (pv 0)) pa_nil)))) (pw_or1 (pt_cmpR op_ne (pe_meD0 (P:=P) (w:=w) (K:=K) (mg:=mg) (base:=base) 22 (hr.mono (by omega)) (pv 0)) (pv 3) (nomark _))))) (pss_one (ps_ret pe_bl)) pss_nil)
      (pss_cons (ps_set (i:=5) sc_l_counted.nd rfl (by walk_at "l") (pe_meD0 (P:=P) (w:=w) (K:=K) (mg:=mg) (base:=base) 22 (hr.mono (by omega)) (pv 0)))
      (pss_cons (ps_if (PW.pt (pw_or (pt_not (pt_val (pe_callB (call_isiK K) rfl B.isi boot_isi (pa_cons (pv 5) (pa_cons (pe_bltn (v:=.ty "list") rfl B.lst boot_list rfl) pa_nil))))) (pw_or1 (pt_cmpR (op_neD K (hu64 hr)) (pv 5) (pv 4) (nomark _))))) (pss_one (ps_ret pe_bl)) pss_nil)
      (pss_cons (ps_expr (pe_bmK K PySem.F.plainAttrs_list PySem.F.slot_list_append PySem.F.type_list_append mt_append (pv 5) (pa_cons pe_str pa_nil)))
      (pss_one (ps_ret (pe_cmpR (op_eqD K (hu64 hr)) (pe_meD0 (P:=P) (w:=w) (K:=K) (mg:=mg) (base:=base) 22 (hr.mono (by omega)) (pv 0)) (pv 4) (nomark _)))))))))),?_⟩
  have hM:∀ x∈t.mn,PyData.strOk x=true:=fun x hx=>hN x (T.mn_ok ok x hx)
  have ml:=T.mn_le t
  refine seq_step fun k hk=>?_
  walk_at "vc"
  refine ⟨t,v,rfl,ht,hd,by omega,fun p1 l1 H1 s1 h1 k1=>⟨p1,rfl,_,.inl (.inl h1),rfl,_,_,rfl,_,_,rfl,_,_,rfl,rfl,hk _ _ (seq_step fun k hk=>?_)⟩⟩
  obtain ⟨pq,dq,fq,rfl,hp,lk⟩:=QAt.obj2 "leaves" (by decide) t hq
  walk_at "vc"
  refine ⟨_,_,_,s1 _ _ hp,lk,_,_,hlv t.kd,t,_,H,rfl,rfl,hq,s1,ok,hd,fun H2 s2=>?_⟩
  have s2:=s1.trans s2
  refine ⟨_,rfl,_,rfl,?_⟩
  rw [if_neg (by decide)]
  refine ⟨_,_,_,s2 _ _ hp,lk,_,_,hlv t.kd,t,_,H,rfl,rfl,hq,s2,ok,hd,fun H3 s3=>⟨rfl,?_⟩⟩
  rw [if_pos rfl]
  have k3:=s3 _ _ (‹Same H1 H2› _ _ k1)
  have s3:=s2.trans s3
  refine hk _ _ (seq_step fun k hk=>?_)
  obtain ⟨pq',dq',fq',e',hp',lk'⟩:=QAt.obj2 "depth" (by decide) t hq
  cases e'
  walk_at "vc"
  refine ⟨_,_,_,s3 _ _ hp',lk',_,_,hdp t.kd,t,_,H,rfl,rfl,hq,s3,ok,hd,fun H4 s4=>⟨_,rfl,_,rfl,?_⟩⟩
  have k4:=s4 _ _ k3
  have s4:=s3.trans s4
  rw [if_neg (by decide)]
  refine ⟨_,_,_,s4 _ _ hp',lk',_,_,hdp t.kd,t,_,H,rfl,rfl,hq,s4,ok,hd,fun H5 s5=>⟨rfl,?_⟩⟩
  have k5:=s5 _ _ k4
  have s5:=s4.trans s5
  rw [if_pos rfl]
  refine hk _ _ (seq_step fun k hk=>?_)
  obtain ⟨pq2,dq2,fq2,e2,hp2,lk2⟩:=QAt.obj2 "mentions" (by decide) t hq
  cases e2
  walk_at "vc"
  refine ⟨_,_,_,s5 _ _ hp2,lk2,_,_,hmn t.kd,t,_,H,rfl,rfl,hq,s5,ok,hd,by omega,fun l6 H6 s6 f6 h6=>hk _ _ (seq_step fun k hk=>?_)⟩
  have k6:=s6 _ _ k5
  have n6:l1≠l6:=ne_of_none k5 f6
  have s6':=s5.trans s6
  walk_at "vc"
  refine rIsi_lst h6 ⟨_,rfl,?_⟩
  rw [if_neg (by decide)]
  refine rNeD_strs hM (SqL.of h6) (SqL.of k6) ⟨_,rfl,?_⟩
  rw [if_neg (by decide)]
  refine hk _ _ (seq_step fun k hk=>?_)
  walk_at "vc"
  refine ⟨⟨_,SqL.of h6⟩,_,h6,small5 (by rw [List.length_map];omega),hk _ _ ?_⟩
  have k7:upd H6 l6 (.lst (t.mn.map V.str++[V.str (Str.ofString "a")])) l1=some (.lst (t.mn.map V.str)):=by
    rw [upd_ne n6]
    exact k6
  have s7:Same H (upd H6 l6 (.lst (t.mn.map V.str++[V.str (Str.ofString "a")]))):=s6'.put (s5.free f6)
  generalize upd H6 l6 (.lst (t.mn.map V.str++[V.str (Str.ofString "a")]))=H7 at k7 s7 ⊢
  walk_at "vc"
  refine ⟨_,_,_,s7 _ _ hp2,lk2,_,_,hmn t.kd,t,_,H,rfl,rfl,hq,s7,ok,hd,by omega,fun l8 H8 s8 f8 h8=>rEqD_strs hM (SqL.of h8) (SqL.of (s8 _ _ k7)) (q _ (s7.trans s8))⟩
end
structure VG (N:List Str)(k:Nat)(kvs:List (Key × V)):Prop where
  len:kvs.length≤k
  nd:(kvs.map (·.1)).Nodup
  isI:∀ kv∈kvs,∃ i,kv.2=.int i
  has:∀ (i:Nat) x,i<k→N[i]?=some x→∃ j,valV kvs (.inr x)=some (.int j)
theorem putK_len {kvs:List (Key × V)}{k:Key}{v:V}:(putK kvs k v).length≤kvs.length+1:=by
  unfold putK
  split
  · rw [List.length_map];omega
  · rw [List.length_append];exact Nat.le_refl _
theorem VG.put {N:List Str} {k:Nat} {kvs:List (Key × V)} (h:VG N k kvs) {x:Str} (hx:N[k]?=some x) (i:Int):VG N (k+1) (putK kvs (.inr x) (.int i)):=by
  refine ⟨Nat.le_trans putK_len (Nat.succ_le_succ h.len),?_,fun kv hk=>?_,fun j y hj hy=>?_⟩
  · unfold putK
    split
    · rw [List.map_map]
      have:((fun x:Key × V=>x.1) ∘ fun kv:Key × V=>if kv.1=.inr x then (kv.1,V.int i) else kv)=fun x=>x.1:=by
        funext kv
        show (if _ then _ else _:Key × V).1=_
        split<;>rfl
      rw [this]
      exact h.nd
    · rename_i c
      rw [List.map_append]
      refine List.nodup_append.mpr ⟨h.nd,List.nodup_cons.mpr ⟨List.not_mem_nil,List.nodup_nil⟩,fun a ha b hb e=>c ?_⟩
      obtain ⟨kv,h1,h2⟩:=List.mem_map.mp ha
      have hb:b=.inr x:=by simpa using hb
      exact List.any_eq_true.mpr ⟨kv,h1,decide_eq_true (by rw [h2,e,hb])⟩
  · unfold putK at hk
    split at hk
    · obtain ⟨kv',h1,rfl⟩:=List.mem_map.mp hk
      split
      · exact ⟨i,rfl⟩
      · exact h.isI _ h1
    · rcases List.mem_append.mp hk with h1 | h1
      · exact h.isI _ h1
      · rw [List.mem_singleton.mp h1]
        exact ⟨i,rfl⟩
  · rw [valV_put]
    by_cases e:(Sum.inr y:Key)=.inr x
    · rw [if_pos e]
      exact ⟨i,rfl⟩
    · rw [if_neg e]
      refine h.has j y ?_ hy
      rcases Nat.lt_succ_iff_lt_or_eq.mp hj with z | rfl
      · exact z
      · cases hx.symm.trans hy
        exact absurd rfl e
theorem VG.nil {N:List Str}:VG N 0 []:=⟨Nat.le_refl _,List.nodup_nil,fun _ h=>(List.not_mem_nil h).elim,fun _ _ h=>absurd h (Nat.not_lt_zero _)⟩
def vAt (kvs:List (Key × V))(x:Str):Int:=match valV kvs (.inr x) with | some (.int i)=>i | _=>0
theorem VG.ok {N:List Str}{kvs:List (Key × V)}(h:VG N 3 kvs)(hN:N.length=3):VOk N kvs (vAt kvs):=fun x hx=>by
  obtain ⟨i,hi⟩:=List.getElem?_of_mem hx
  obtain ⟨j,hj⟩:=h.has i x (by have:=(List.getElem?_eq_some_iff.mp hi).1;omega) hi
  unfold vAt
  rw [hj]
theorem small5' {n:Nat}(h:n≤1000):n<sizeLine:=Nat.lt_of_le_of_lt h (by decide)
theorem VG.again {N:List Str}{k:Nat}{kvs:List (Key × V)}(h:VG N (k+1) kvs){x:Str}(hx:N[k]?=some x)(i:Int):VG N (k+1) (putK kvs (.inr x) (.int i)):=by
  obtain ⟨j,hj⟩:=h.has k x (Nat.lt_succ_self _) hx
  have c:(kvs.any fun kv=>decide (kv.1=(Sum.inr x:Key)))=true:=by
    unfold valV at hj
    cases e:kvs.find? fun kv=>decide (kv.1=(Sum.inr x:Key)) with
    | none=>rw [e] at hj;cases hj
    | some kv=>exact List.any_eq_true.mpr ⟨kv,List.mem_of_find?_eq_some e,by have:=List.find?_some e;exact this⟩
  have e:putK kvs (.inr x) (.int i)=kvs.map fun kv=>if kv.1=(Sum.inr x:Key) then (kv.1,V.int i) else kv:=by
    unfold putK
    rw [if_pos c]
  refine ⟨by rw [e,List.length_map];exact h.len,?_,fun kv hk=>?_,fun m y hm hy=>?_⟩
  · rw [e,List.map_map]
    have:((fun x:Key × V=>x.1) ∘ fun kv:Key × V=>if kv.1=.inr x then (kv.1,V.int i) else kv)=fun x=>x.1:=by
      funext kv
      show (if _ then _ else _:Key × V).1=_
      split<;>rfl
    rw [this]
    exact h.nd
  · rw [e] at hk
    obtain ⟨kv',h1,rfl⟩:=List.mem_map.mp hk
    split
    · exact ⟨i,rfl⟩
    · exact h.isI _ h1
  · rw [valV_put]
    split
    · exact ⟨i,rfl⟩
    · exact h.has m y hm hy
abbrev Tab:=List (Nat × List (Key × V))
structure TbAt (N:List Str)(G:Hp)(kvs:List (Key × V))(tb:Tab):Prop where
  len:kvs.length=tb.length
  row:∀ (i:Nat) kv x,kvs[i]?=some kv→tb[i]?=some x→∃ d,kv=(Sum.inl (x.1:Int),V.ref d)∧G d=some (.dK x.2)∧VG N 3 x.2
  nd:(tb.map (·.1)).Nodup
theorem TbAt.nil {N:List Str}{G:Hp}:TbAt N G [] []:=⟨rfl,fun i kv x e=>absurd e (by simp),List.nodup_nil⟩
theorem TbAt.same {N:List Str}{G G':Hp}{kvs:List (Key × V)}{tb:Tab}(h:TbAt N G kvs tb)(s:Same G G'):TbAt N G' kvs tb :=
  ⟨h.len,fun i kv x a b=>by obtain ⟨d,e,h1,h2⟩:=h.row i kv x a b;exact ⟨d,e,s _ _ h1,h2⟩,h.nd⟩
theorem TbAt.keys {N:List Str}{G:Hp}{kvs:List (Key × V)}{tb:Tab}(h:TbAt N G kvs tb):kvs.map (·.1)=(tb.map fun x=>(x.1:Int)).map Sum.inl:=by
  rw [List.map_map]
  refine List.ext_getElem (by rw [List.length_map,List.length_map,h.len]) fun i a b=>?_
  rw [List.length_map] at a b
  obtain ⟨d,e,_⟩:=h.row i _ _ (List.getElem?_eq_getElem a) (List.getElem?_eq_getElem b)
  rw [List.getElem_map,List.getElem_map,e]
  rfl
theorem TbAt.knd {N:List Str}{G:Hp}{kvs:List (Key × V)}{tb:Tab}(h:TbAt N G kvs tb):(kvs.map (·.1)).Nodup:=by
  rw [h.keys,List.map_map]
  have:=h.nd
  rw [List.nodup_iff_pairwise_ne,List.pairwise_map] at this ⊢
  exact this.imp fun {a b} n z=>n (Int.ofNat.inj (Sum.inl.inj z))
theorem TbAt.get {N:List Str}{G:Hp}{kvs:List (Key × V)}{tb:Tab}(h:TbAt N G kvs tb){x:Nat × List (Key × V)}(hx:x∈tb):∃ d,valV kvs (.inl (x.1:Int))=some (.ref d)∧G d=some (.dK x.2)∧VG N 3 x.2:=by
  obtain ⟨i,hi⟩:=List.getElem?_of_mem hx
  have hl:=(List.getElem?_eq_some_iff.mp hi).1
  have gk:=List.getElem?_eq_getElem (l:=kvs) (i:=i) (by rw [h.len];exact hl)
  obtain ⟨d,e,h1,h2⟩:=h.row i _ x gk hi
  rw [e] at gk
  exact ⟨d,valV_nd h.knd (List.mem_of_getElem? gk),h1,h2⟩
theorem TbAt.put {N:List Str} {G:Hp} {kvs:List (Key × V)} {tb:Tab} (h:TbAt N G kvs tb) (r:Nat) {d:Addr} {kv:List (Key × V)} (hd:G d=some (.dK kv)) (hv:VG N 3 kv):∃ tb',TbAt N G (putK kvs (.inl (r:Int)) (.ref d)) tb'∧tb'.length≤tb.length+1:=by
  by_cases c:(kvs.any fun kv=>decide (kv.1=(Sum.inl (r:Int):Key)))=true
  · refine ⟨tb.map fun x=>if x.1=r then (r,kv) else x,⟨?_,fun i a x ha hx=>?_,?_⟩,by rw [List.length_map];exact Nat.le_succ _⟩
    · unfold putK
      rw [if_pos c,List.length_map,List.length_map,h.len]
    · unfold putK at ha
      rw [if_pos c,List.getElem?_map] at ha
      rw [List.getElem?_map] at hx
      cases ek:kvs[i]? with
      | none=>rw [ek] at ha;cases ha
      | some a0 =>
        cases et:tb[i]? with
        | none=>rw [et] at hx;cases hx
        | some x0 =>
          rw [ek] at ha
          rw [et] at hx
          obtain ⟨d0,e0,g0,v0⟩:=h.row i a0 x0 ek et
          subst e0
          have ha:(if (Sum.inl (x0.1:Int):Key)=.inl (r:Int) then (Sum.inl (x0.1:Int),V.ref d) else (Sum.inl (x0.1:Int),V.ref d0))=a:=Option.some.inj ha
          have hx:(if x0.1=r then (r,kv) else x0)=x:=Option.some.inj hx
          by_cases z:x0.1=r
          · rw [if_pos z] at hx
            rw [if_pos (by rw [z])] at ha
            subst hx
            subst ha
            exact ⟨d,by rw [z],hd,hv⟩
          · rw [if_neg z] at hx
            have z':¬ (Sum.inl (x0.1:Int):Key)=.inl (r:Int):=fun y=>z (Int.ofNat.inj (Sum.inl.inj y))
            rw [if_neg z'] at ha
            subst hx
            subst ha
            exact ⟨d0,rfl,g0,v0⟩
    · rw [List.map_map]
      have:((fun x:Nat × List (Key × V)=>x.1) ∘ fun x=>if x.1=r then (r,kv) else x)=fun x=>x.1:=by
        funext x
        show (if _ then _ else _:Nat × List (Key × V)).1=_
        split
        · rename_i z
          exact z.symm
        · rfl
      rw [this]
      exact h.nd
  · refine ⟨tb++[(r,kv)],⟨?_,fun i a x ha hx=>?_,?_⟩,by rw [List.length_append];exact Nat.le_refl _⟩
    · unfold putK
      rw [if_neg c,List.length_append,List.length_append,h.len]
      rfl
    · unfold putK at ha
      rw [if_neg c] at ha
      by_cases l:i<tb.length
      · rw [List.getElem?_append_left l] at hx
        rw [List.getElem?_append_left (by rw [h.len];exact l)] at ha
        exact h.row i a x ha hx
      · rw [List.getElem?_append_right (by omega)] at hx
        rw [List.getElem?_append_right (by rw [h.len];omega),h.len] at ha
        have e0:i-tb.length=0:=by
          have:=(List.getElem?_eq_some_iff.mp hx).1
          simp at this
          omega
        rw [e0] at hx ha
        cases hx
        cases ha
        exact ⟨d,rfl,hd,hv⟩
    · rw [List.map_append]
      refine List.nodup_append.mpr ⟨h.nd,List.nodup_cons.mpr ⟨List.not_mem_nil,List.nodup_nil⟩,fun a ha b hb e=>c ?_⟩
      obtain ⟨x,h1,h2⟩:=List.mem_map.mp ha
      have hb:b=r:=by simpa using hb
      obtain ⟨i,hi⟩:=List.getElem?_of_mem h1
      have hl:=(List.getElem?_eq_some_iff.mp hi).1
      have gk:=List.getElem?_eq_getElem (l:=kvs) (i:=i) (by rw [h.len];exact hl)
      obtain ⟨d0,e0,_⟩:=h.row i _ x gk hi
      exact List.any_eq_true.mpr ⟨_,List.mem_of_getElem? gk,decide_eq_true (by rw [e0];show (Sum.inl (x.1:Int):Key)=_;rw [h2,e,hb])⟩
def spTable (K:PySem.W.Frag):Sp:=fun vs H Q _=>∃ (sc a b:Addr) (N:List Str) (ns ms:List Int),vs=[.ref sc,.ref a,.ref b]∧SqL K H sc (ns.map V.int)∧SqL K H a (N.map V.str)∧N.length=3∧SqL K H b (ms.map V.int)∧ms.length≤10000∧∀ p kvs tb H',Same H H'→H p=none→H' p=some (.dK kvs)→TbAt N (del H' p) kvs tb→tb.length≤20→Q (.ref p) H'
structure TaI (N:List Str)(sc a b p c:Addr)(zs:List Int)(H:Hp)(i:Nat)(σ:L2.St)(H':Hp):Prop where
  ex:∃ (kvs:List (Key × V)) (tb:Tab) (v4 v5 v6 v7 v8 v9:Option V),σ=[some (.ref sc),some (.ref a),some (.ref b),some (.ref p),v4,v5,v6,v7,v8,v9]∧H' p=some (.dK kvs)∧TbAt N (del H' p) kvs tb∧tb.length≤i
  hc:H' c=some (.lst (zs.map V.int))
  sm:Same H H'
structure TvI (N:List Str)(sc a b p pv:Addr)(z x r:Int)(H:Hp)(k:Nat)(σ:L2.St)(H':Hp):Prop where
  ex:∃ (kv:List (Key × V)) (v8 v9:Option V),σ=[some (.ref sc),some (.ref a),some (.ref b),some (.ref p),some (.int z),some (.int x),some (.int r),some (.ref pv),v8,v9]∧H' pv=some (.dK kv)∧VG N k kv
  sm:Same H H'
theorem cut20 (ns:List Int):∃ zs:List Int,cutV (ns.map V.int) (some 2) (some 22)=zs.map V.int∧zs.length≤20:=by
  have e:cutV (ns.map V.int) (some 2) (some 22)=((ns.drop (HT.sIx ns.length 0 (some 2))).take (HT.sIx ns.length ns.length (some 22)-HT.sIx ns.length 0 (some 2))).map V.int:=by
    unfold cutV
    rw [List.length_map,List.map_take,List.map_drop]
  refine ⟨_,e,?_⟩
  rw [show (2:Int)=((2:Nat):Int) from rfl,show (22:Int)=((22:Nat):Int) from rfl,HT.sIx_nat,HT.sIx_nat,List.length_take,List.length_drop]
  omega
section
variable {P:Program}{w:World}{K:PySem.W.Frag}{mg:Str→Option Value}{base:Heap}
theorem ok_table (B:Blt mg) (h_l_mixed:FnAt P w K mg base "_law_mixed" ["_law_cell","_law_k"] 1 spMixed) (d:DefAt K mg "_law_table" s_l_table ["_law_script","_law_names_here","_law_numbers"]):FnAt P w K mg base "_law_table" ["_law_script","_law_names_here","_law_numbers"] 2 (spTable K):=by
  refine FnAt.of d sc_l_table (fun vs H Q E h=>?_) (fun f cdv A outer s H vs Q E hr h=>?_)
  · obtain ⟨sc,a,b,N,ns,ms,rfl,_⟩:=h
    rfl
  obtain ⟨sc,a,b,N,ns,ms,rfl,hS,hA,hN,hB,lm,q⟩:=h
  refine ⟨_,(pss_cons (ps_set (i:=3) sc_l_table.nd rfl (by walk_at "l") pe_dnewK)
      (pss_cons (ps_for PassesOwn.never rfl (pi_listK K (pe_slice (sl_listK K) (pv 0) (po_some pe_int) (po_some pe_int))) (pg_name (i:=4) sc_l_table.nd rfl (by walk_at "l")) (pss_cons (ps_set (i:=5) sc_l_table.nd rfl (by walk_at "l") (pe_callF h_l_mixed (hr.mono (by decide)) rfl (pa_cons (pv 4) (pa_cons pe_int pa_nil))))
      (pss_cons (ps_set (i:=6) sc_l_table.nd rfl (by walk_at "l") (pe_op op_mod (pe_op op_fdiv (pv 5) pe_int) pe_int))
      (pss_cons (ps_if (pt_cmpR op_eq (pe_op op_mod (pv 5) pe_int) pe_int (nomark _)) (pss_one (ps_set (i:=6) sc_l_table.nd rfl (by walk_at "l") (pe_op op_mod (pe_op op_fdiv (pv 5) pe_int) pe_int))) pss_nil)
      (pss_cons (ps_set (i:=7) sc_l_table.nd rfl (by walk_at "l") pe_dnewK)
      (pss_cons (ps_for PassesOwn.never rfl (pi_range1 rfl B.range (pa_cons pe_int pa_nil)) (pg_name (i:=8) sc_l_table.nd rfl (by walk_at "l")) (pss_cons (ps_set (i:=9) sc_l_table.nd rfl (by walk_at "l") (pe_callF h_l_mixed (hr.mono (by decide)) rfl (pa_cons (pv 4) (pa_cons (pe_op op_add pe_int (pv 8)) pa_nil))))
      (pss_cons (ps_dput (hu1 hr) (pv 7) (pe_ix (ix_listK K) (pv 1) (pv 8) (fun _ _=>rfl)) (pe_op op_mod (pe_op op_fdiv (pv 9) pe_int) pe_int) rfl)
      (pss_one (ps_if (PW.pt (pw_and (pt_cmpR op_gt (pe_op op_mod (pv 9) pe_int) pe_int (nomark _)) (pw_and1 (pt_cmpR (op_neD K (hu64 hr)) (pv 2) (pe_lst pa_nil) (nomark _))))) (pss_one (ps_dput (hu1 hr) (pv 7) (pe_ix (ix_listK K) (pv 1) (pv 8) (fun _ _=>rfl)) (pe_op op_add (pe_ix (ix_listK K) (pv 2) (pe_op op_mod (pe_op op_fdiv (pv 9) pe_int) (pe_callB (call_lenK K) rfl B.len PySem.boot_len (pa_cons (pv 2) pa_nil))) (fun _ _=>rfl)) (pe_ix (ix_listK K) (pe_lst (pa_cons pe_int (pa_cons pe_int (pa_cons pe_int (pa_cons pe_int (pa_cons (pe_un un_neg pe_int) (pa_cons pe_int pa_nil))))))) (pe_op op_sub (pe_op op_mod (pv 9) pe_int) pe_int) (fun _ _=>rfl))) rfl)) pss_nil)))))
      (pss_one (ps_dput (hu1 hr) (pv 3) (pv 6) (pv 7) rfl))))))))
      (pss_one (ps_ret (pv 3))))),?_⟩
  refine seq_step fun k hk=>?_
  walk_at "vc"
  intro p hp
  refine hk _ _ (seq_step fun k hk=>?_)
  have s1:=Same.new (o:=.dK []) hp
  have h1:upd H p (.dK []) p=some (.dK []):=upd_same
  generalize upd H p (.dK [])=H1 at s1 h1 ⊢
  walk_at "vc"
  refine ⟨_,s1.seq hS,fun c hc=>?_⟩
  obtain ⟨zs,ez,lz⟩:=cut20 ns
  rw [ez]
  have ncp:c≠p:=(ne_of_none h1 hc).symm
  have s2:=s1.trans (Same.new (o:=.lst (zs.map V.int)) hc)
  refine ⟨⟨_,SqL.of upd_same⟩,loopL (K:=K) (xs:=zs.map V.int) (TaI N sc a b p c zs H) ⟨⟨[],[],_,_,_,_,_,_,rfl,Same.new hc _ _ h1,TbAt.nil,Nat.le_refl _⟩,upd_same,s2⟩ (fun i σ H' _ h=>SqL.of h.hc) ?_ ?_⟩
  · rintro i u σ H3 hu ⟨⟨kvs,tb,v4,v5,v6,v7,v8,v9,rfl,h3,tbA,li⟩,hc3,s3⟩
    obtain ⟨z,hz,rfl⟩:∃ z,zs[i]?=some z∧u=V.int z:=by
      rw [List.getElem?_map] at hu
      cases e:zs[i]? with
      | none=>rw [e] at hu;cases hu
      | some z=>rw [e] at hu;cases hu;exact ⟨z,rfl,rfl⟩
    have zl:=(List.getElem?_eq_some_iff.mp hz).1
    rw [gName_ap]
    refine seq_step fun k hk=>?_
    walk_at "vc"
    refine ⟨_,_,rfl,hk _ _ (seq_step fun k hk=>?_)⟩
    generalize mixI z 9=x
    walk_at "vc"
    refine hk _ _ (seq_step fun k hk=>?_)
    have go : ∀ r:Nat,k [some (.ref sc),some (.ref a),some (.ref b),some (.ref p),some (.int z),some (.int x),some (.int r),v7,v8,v9] H3:=fun r=>by
      refine hk _ _ (seq_step fun k hk=>?_)
      walk_at "vc"
      intro pv fv
      refine hk _ _ (seq_step fun k hk=>?_)
      have npv:pv≠p:=(ne_of_none h3 fv).symm
      walk_at "vc"
      refine loopR (TvI N sc a b p pv z x r H3) ⟨⟨[],_,_,rfl,upd_same,VG.nil⟩,Same.new fv⟩ ?_ ?_
      · rintro j σ H4 hj ⟨⟨kv,v8,v9,rfl,h4,vg⟩,s4⟩
        obtain ⟨y,hy⟩:∃ y,N[j]?=some y:=⟨_,List.getElem?_eq_getElem (by omega)⟩
        rw [gName_ap]
        refine seq_step fun k hk=>?_
        walk_at "vc"
        refine ⟨_,_,rfl,hk _ _ (seq_step fun k hk=>?_)⟩
        generalize mixI z (5+(j:Int))=yy
        walk_at "vc"
        have gy:atI (N.map V.str) (j:Int)=some (.str y):=atI_nat (by rw [List.getElem?_map,hy];rfl)
        refine ⟨_,(s3.trans s4).seq hA,_,gy,_,DPut.k (k:=.inr y) h4 (small5' (Nat.le_trans vg.len (by omega))),hk _ _ ?_⟩
        have s5:=s4.put (o:=.dK (putK kv (.inr y) (.int (yy/8%45)))) fv
        have h5:upd H4 pv (.dK (putK kv (.inr y) (.int (yy/8%45)))) pv=some (.dK (putK kv (.inr y) (.int (yy/8%45)))):=upd_same
        have vg:=vg.put hy (yy/8%45)
        generalize upd H4 pv (.dK (putK kv (.inr y) (.int (yy/8%45))))=H5 at s5 h5 ⊢
        generalize putK kv (.inr y) (.int (yy/8%45))=kv at h5 vg
        walk_at "vc"
        by_cases c1:1<yy%8
        · rw [if_pos c1]
          refine ⟨Nat.zero_le _,fun p1 f1=>?_⟩
          have s6:=Same.new (o:=.lst []) f1
          refine rNeD_ints (ms:=[]) ((s3.trans (s5.trans s6)).seq hB) (SqL.of upd_same) ⟨_,rfl,?_⟩
          by_cases c2:ms=[]
          · rw [decide_eq_true c2,if_neg (by decide)]
            exact ⟨⟨kv,_,_,rfl,s6 _ _ h5,vg⟩,s5.trans s6⟩
          · rw [decide_eq_false c2,if_pos (by decide)]
            have hS:=(s3.trans (s5.trans s6)).seq hB
            have l0:0<ms.length:=List.length_pos_iff.mpr c2
            have e0:=Int.emod_nonneg (yy/8) (b:=(ms.length:Int)) (by omega)
            have e1:=Int.emod_lt_of_pos (yy/8) (b:=(ms.length:Int)) (by omega)
            obtain ⟨m,hm⟩:=Int.eq_ofNat_of_zero_le e0
            rw [hm] at e1
            have gm:ms[m]?=some ms[m]:=List.getElem?_eq_getElem (by omega)
            refine ⟨_,.inl hS,by rw [List.length_map];omega,_,hS,.int ms[m],by rw [List.length_map,hm];exact atI_nat (by rw [List.getElem?_map,gm];rfl),by decide,fun p2 f2=>⟨_,SqL.of upd_same,?_⟩⟩
            obtain ⟨g,hg,eg⟩:∃ g:Nat,g<6∧yy%8-2=(g:Int):=⟨(yy%8-2).toNat,by omega,by omega⟩
            rw [eg]
            have g6:∃ y,[V.int 0,V.int 0,V.int 0,V.int 1,V.int (-1),V.int 0][g]?=some (V.int y):=by
              have:g=0∨g=1∨g=2∨g=3∨g=4∨g=5:=by omega
              rcases this with rfl | rfl | rfl | rfl | rfl | rfl<;>exact ⟨_,rfl⟩
            obtain ⟨e,he⟩:=g6
            have s7:=s5.trans (s6.trans (Same.new (o:=.lst [V.int 0,V.int 0,V.int 0,V.int 1,V.int (-1),V.int 0]) f2))
            exact ⟨_,atI_nat he,_,rfl,_,rfl,_,(s3.trans s7).seq hA,_,gy,_,DPut.k (k:=.inr y) ((s6.trans (Same.new f2)) _ _ h5) (small5' (Nat.le_trans vg.len (by omega))),⟨_,_,_,rfl,upd_same,vg.again hy _⟩,s7.put fv⟩
        · rw [if_neg c1]
          exact ⟨⟨kv,_,_,rfl,h5,vg⟩,s5⟩
      · rintro σ H4 ⟨⟨kv,v8,v9,rfl,h4,vg⟩,s4⟩
        refine hk _ _ ?_
        walk_at "vc"
        have g4:del (upd H4 p (.dK (putK kvs (.inl (r:Int)) (.ref pv)))) p pv=some (.dK kv):=by
          rw [del_ne npv,upd_ne npv]
          exact h4
        obtain ⟨tb',t1,t2⟩:=(tbA.same (del_put s4)).put r g4 vg
        refine ⟨_,DPut.k (k:=.inl (r:Int)) (s4 _ _ h3) (small5' (by rw [tbA.len];omega)),⟨_,tb',_,_,_,_,_,_,rfl,upd_same,t1,by omega⟩,?_,(s3.trans s4).put hp⟩
        rw [upd_ne ncp]
        exact s4 _ _ hc3
    walk_at "vc"
    split
    · have:=go (x/2%60).toNat
      rw [show (((x/2%60).toNat:Nat):Int)=x/2%60 by omega] at this
      exact this
    · have:=go (x/2%65536).toNat
      rw [show (((x/2%65536).toNat:Nat):Int)=x/2%65536 by omega] at this
      exact this
  · rintro σ H3 ⟨⟨kvs,tb,v4,v5,v6,v7,v8,v9,rfl,h3,tbA,li⟩,hc3,s3⟩
    refine hk _ _ ?_
    walk_at "vc"
    rw [List.length_map] at li
    exact q _ _ _ _ s3 hp h3 tbA (by omega)
end
def spFlat:Sp:=fun vs H Q _=>∃ (a b:Addr) (xs:List Int),vs=[.ref a,.ref b]∧H a=some (.lst (xs.map V.int))∧H b=some (.lst (xs.map V.int))∧xs.length≤1000∧∀ H',Same H H'→Q (.bl true) H'
section
variable {P:Program}{w:World}{K:PySem.W.Frag}{mg:Str→Option Value}{base:Heap}
theorem ok_flat (B:Blt mg)(h_l_whole:FnAt P w K mg base "_law_whole" ["_law_found"] 1 spWhole)(d:DefAt K mg "_law_flat" s_l_flat ["_law_found","_law_due"]):FnAt P w K mg base "_law_flat" ["_law_found","_law_due"] 2 spFlat:=by
  refine FnAt.of d sc_l_flat (fun vs H Q E h=>?_) (fun f cdv A outer s H vs Q E hr h=>?_)
  · obtain ⟨a,b,xs,rfl,_⟩:=h
    rfl
  obtain ⟨a,b,xs,rfl,ha,hb,lx,q⟩:=h
  refine ⟨_,(pss_cons (ps_if (PW.pt (pw_or (pt_not (pt_val (pe_callB (call_isiK K) rfl B.isi boot_isi (pa_cons (pv 0) (pa_cons (pe_bltn (v:=.ty "list") rfl B.lst boot_list rfl) pa_nil))))) (pw_or1 (pt_cmpR (op_neD K (hu64 hr)) (pv 0) (pv 1) (nomark _))))) (pss_one (ps_ret pe_bl)) pss_nil)
      (pss_one (ps_ret (pe_cmpR op_eq (pe_callB (call_lenK K) rfl B.len PySem.boot_len (pa_cons (pe_comp ["_law_number"] [] rfl (pi_listK K (pv 0)) (fun _ _ _ _ _=>pg_name (i:=0) (by show List.Nodup (["_law_number"]:List Str);decide +kernel) rfl (Or.inl rfl)) (fun _ _ _ _ _=>pts_one (pt_val (pe_callF h_l_whole (hr.mono (by decide)) rfl (pa_cons (pv 0) pa_nil)))) (fun _ _ _ _ _=>(pv 0)) trivial gOwn_name) pa_nil)) (pe_callB (call_lenK K) rfl B.len PySem.boot_len (pa_cons (pv 1) pa_nil)) (nomark _))))),?_⟩
  walk_at "vc"
  refine rIsi_lst ha ⟨_,rfl,?_⟩
  rw [if_neg (by decide)]
  refine rNeD_ints (SqL.of ha) (SqL.of hb) ⟨_,rfl,?_⟩
  rw [decide_eq_true rfl,if_neg (by decide)]
  refine ⟨⟨_,SqL.of ha⟩,compL (fun _=>true) id (SqL.of ha) (by rw [List.length_map];omega) (fun x H R hx s h=>?_) (fun x H R hx _ s h=>?_) (fun p np=>?_)⟩
  · obtain ⟨z,hz,rfl⟩:=List.mem_map.mp hx
    walk_at "vc"
    exact ⟨_,rfl,_,rfl,h⟩
  · obtain ⟨z,hz,rfl⟩:=List.mem_map.mp hx
    walk_at "vc"
    exact h
  rw [List.filter_eq_self.mpr (fun _ _=>rfl),List.map_id]
  refine ⟨p,rfl,_,.inl (SqL.of upd_same),_,.inl (SqL.of (Same.new np _ _ hb)),?_⟩
  rw [decide_eq_true rfl]
  exact q _ (Same.new np)
end
def srtI (zs:List Int):List Int:=zs.mergeSort fun a b=>decide (a≤b)
theorem srtI_eq {zs ns:List Int}(p:ns.Perm zs)(s:ns.Pairwise (·≤·)):ns=srtI zs:=by
  have h:=List.pairwise_mergeSort (le:=fun a b:Int=>decide (a≤b)) (fun a b c h1 h2=>by rw [decide_eq_true_eq] at *;omega) (fun a b=>by rw [Bool.or_eq_true,decide_eq_true_eq,decide_eq_true_eq];omega) zs
  exact List.Perm.eq_of_pairwise (fun a b _ _ h1 h2=>by omega) s (h.imp fun h=>by rw [decide_eq_true_eq] at h;exact h) (p.trans (List.mergeSort_perm zs _).symm)
theorem srtI_mem {zs:List Int}{r:Int}:r∈srtI zs↔r∈zs:=(List.mergeSort_perm zs _).mem_iff
theorem srtI_len {zs:List Int}:(srtI zs).length=zs.length:=(List.mergeSort_perm zs _).length_eq
def keyI (tb:Tab):List Int:=tb.map fun x=>(x.1:Int)
def cont (tb:Tab)(r:Int):List (Key × V):=((tb.find? fun x=>decide ((x.1:Int)=r)).map (·.2)).getD []
def valR (tb:Tab)(nm:Str)(r:Int):Int:=vAt (cont tb r) nm
def rowsT (t:T)(tb:Tab):List Int:=(srtI (keyI tb)).filter fun r=>t.hol (vAt (cont tb r))
theorem TbAt.gi {N:List Str}{G:Hp}{kvs:List (Key × V)}{tb:Tab}(h:TbAt N G kvs tb){r:Int}(hr:r∈keyI tb):∃ d,valV kvs (.inl r)=some (.ref d)∧G d=some (.dK (cont tb r))∧VG N 3 (cont tb r):=by
  unfold keyI at hr
  obtain ⟨x,hx,rfl⟩:=List.mem_map.mp hr
  obtain ⟨d,h1,h2,h3⟩:=h.get hx
  have e:cont tb (x.1:Int)=x.2:=by
    unfold cont
    cases c:tb.find? fun y=>decide ((y.1:Int)=(x.1:Int)) with
    | none =>
      have:=List.find?_eq_none.mp c x hx
      simp at this
    | some y =>
      have m:=List.mem_of_find?_eq_some c
      have z:=List.find?_some c
      rw [decide_eq_true_eq] at z
      obtain ⟨d',g1,g2,g3⟩:=h.get m
      rw [z,h1] at g1
      cases g1
      rw [h2] at g2
      have g2:x.2=y.2:=by injection g2 with g2;injection g2
      show y.2=x.2
      exact g2.symm
  rw [e]
  exact ⟨d,h1,h2,h3⟩
theorem rowsT_key {t:T}{tb:Tab}{r:Int}(h:r∈rowsT t tb):r∈keyI tb:=srtI_mem.mp (List.mem_filter.mp h).1
theorem rowsT_len {t:T}{tb:Tab}:(rowsT t tb).length≤tb.length:=by
  refine Nat.le_trans (List.length_filter_le _ _) ?_
  rw [srtI_len]
  unfold keyI
  rw [List.length_map]
  exact Nat.le_refl _
def spPR (C:Kd→Addr)(N:List Str):Sp:=fun vs H Q _=>∃ (t:T) (qu:V) (a:Addr) (kvs:List (Key × V)) (tb:Tab),vs=[qu,.ref a]∧QAt C H t qu∧t.ok N∧t.dep<30∧H a=some (.dK kvs)∧TbAt N H kvs tb∧tb.length≤20∧N.length=3∧∀ l H',Same H H'→H' l=some (.lst ((rowsT t tb).map V.int))→Q (.ref l) H'
section
variable {P:Program}{w:World}{K:PySem.W.Frag}{mg:Str→Option Value}{base:Heap}{C:Kd→Addr}{N:List Str}
theorem ok_pr (B:Blt mg)(hh:∀ k,MethAt P w K mg base (C k) "holds" ["self","values"] 31 (spHolds C N 30 k))(d:DefAt K mg "plain_rows" s_plain_rows ["question","table"]):FnAt P w K mg base "plain_rows" ["question","table"] 32 (spPR C N):=by
  refine FnAt.of d sc_plain_rows (fun vs H Q E h=>?_) (fun f cdv A outer s H vs Q E hr h=>?_)
  · obtain ⟨t,qu,a,kvs,tb,rfl,_⟩:=h
    rfl
  obtain ⟨t,qu,a,kvs,tb,rfl,hq,ok,hd,ha,tbA,lt,hN,q⟩:=h
  refine ⟨_,(pss_one (ps_ret (pe_comp ["row"] [0,1] rfl (pi_listK K (pe_callB call_sortedD rfl B.sorted L2.boot_sorted (pa_cons (pv 1) pa_nil))) (fun _ _ _ _ _=>pg_name (i:=0) (by show List.Nodup (["row","question","table"]:List Str);decide +kernel) rfl (Or.inl rfl)) (fun _ _ _ _ _=>pts_one (pt_val (pe_meD (P:=P) (w:=w) (K:=K) (mg:=mg) (base:=base) 31 (hr.mono (by omega)) (pv 1) (pa_cons (pe_dget (hu1 hr) (pv 2) (pv 0) (fun _ _=>rfl)) pa_nil)))) (fun _ _ _ _ _=>(pv 0)) ⟨⟨_,rfl,rfl,.inl rfl⟩,⟨⟨_,rfl,rfl,.inl rfl⟩,trivial⟩⟩ gOwn_name))),?_⟩
  obtain ⟨pq,dq,fq,rfl,hp,lk⟩:=QAt.obj t hq
  walk_at "vc"
  refine ⟨kvs,ha,keyI tb,tbA.keys,fun l ns' fl pm so=>?_⟩
  have e:=srtI_eq pm so
  subst e
  have s1:=Same.new (o:=.lst ((srtI (keyI tb)).map V.int)) fl
  have kl:(keyI tb).length=tb.length:=by unfold keyI;rw [List.length_map]
  refine ⟨⟨_,SqL.of upd_same⟩,compT (xs:=(srtI (keyI tb)).map V.int) (fun i=>t.hol (vAt (cont tb ((srtI (keyI tb)).getD i 0)))) (SqL.of upd_same) (by rw [List.length_map,srtI_len];omega) (fun i x H2 R hx s2 q2=>?_) (fun x H2 R q2=>?_) (fun D H2 s2 h2=>?_)⟩
  · rw [List.getElem?_map] at hx
    cases er:(srtI (keyI tb))[i]? with
    | none=>rw [er] at hx;cases hx
    | some r =>
      rw [er] at hx
      cases hx
      have gr:(srtI (keyI tb)).getD i 0=r:=by rw [List.getD_eq_getElem?_getD,er];rfl
      rw [gr] at q2
      obtain ⟨d,g1,g2,g3⟩:=tbA.gi (srtI_mem.mp (List.mem_of_getElem? er))
      have S:=s1.trans s2
      walk_at "vc"
      exact ⟨_,_,_,S _ _ hp,lk,_,_,hh t.kd,_,.inl ⟨kvs,.inl r,.inl (S _ _ ha),rfl,g1.symm⟩,t,_,d,_,vAt (cont tb r),rfl,rfl,QAt.same S _ hq,ok,hd,S _ _ g2,g3.ok hN,fun H3 s3=>⟨_,rfl,q2 H3 s3⟩⟩
  · walk_at "vc"
    exact q2
  · refine q D H2 (s1.trans s2) ?_
    rw [h2,List.length_map]
    have:=range_filter_map (fun r=>t.hol (vAt (cont tb r))) V.int (srtI (keyI tb)) (fun i=>t.hol (vAt (cont tb ((srtI (keyI tb)).getD i 0)))) (fun i=>((srtI (keyI tb)).map V.int).getD i .non) fun i x hx=>by
      rw [List.getD_eq_getElem?_getD,List.getD_eq_getElem?_getD,List.getElem?_map,hx]
      exact ⟨rfl,rfl⟩
    rw [this]
    rfl
def spPT (C:Kd→Addr)(N:List Str):Sp:=fun vs H Q _=>∃ (t:T) (nm:Str) (qu:V) (a:Addr) (kvs:List (Key × V)) (tb:Tab),vs=[.str nm,qu,.ref a]∧nm∈N∧QAt C H t qu∧t.ok N∧t.dep<30∧H a=some (.dK kvs)∧TbAt N H kvs tb∧tb.length≤20∧N.length=3∧∀ H',Same H H'→Q (.int ((rowsT t tb).map (valR tb nm)).sum) H'
def valF (tb:Tab)(nm:Str):V→V
  | .int r=>.int (valR tb nm r)
  | v=>v
theorem valF_map (tb:Tab)(nm:Str)(rs:List Int):(rs.map V.int).map (valF tb nm)=(rs.map (valR tb nm)).map V.int:=by
  rw [List.map_map,List.map_map]
  rfl
theorem fil_val {t:T}{tb:Tab}{nm:Str}{m:Int}:(((rowsT t tb).map V.int).filter fun v=>decide (valF tb nm v=V.int m)).map id=((rowsT t tb).filter fun r=>decide (valR tb nm r=m)).map V.int:=by
  rw [List.map_id,List.filter_map]
  congr 1
  refine List.filter_congr fun r _=>?_
  show decide (V.int (valR tb nm r)=V.int m)=_
  exact decide_eq_decide.mpr ⟨fun z=>by injection z,fun z=>by rw [z]⟩
theorem cell_at {H:Hp}{a:Addr}{kvs:List (Key × V)}{tb:Tab}{nm:Str}{r:Int}{Q:V→Prop}(hN:N.length=3)(ha:H a=some (.dK kvs))(tbA:TbAt N H kvs tb)(hn:nm∈N)(hr:r∈keyI tb)(q:Q (.int (valR tb nm r))):∃ x,DGet H a (V.int r) (some x)∧∃ b,x=.ref b∧∃ y,DGet H b (V.str nm) (some y)∧Q y:=by
  obtain ⟨d,g1,g2,g3⟩:=tbA.gi hr
  exact ⟨_,.inl ⟨kvs,.inl r,.inl ha,rfl,g1.symm⟩,d,rfl,_,.inl ⟨_,.inr nm,.inl g2,rfl,(g3.ok hN nm hn).symm⟩,q⟩
theorem ok_pt (B:Blt mg)(h_plain_rows:FnAt P w K mg base "plain_rows" ["question","table"] 32 (spPR C N))(d:DefAt K mg "plain_total" s_plain_total ["name","question","table"]):FnAt P w K mg base "plain_total" ["name","question","table"] 33 (spPT C N):=by
  refine FnAt.of d sc_plain_total (fun vs H Q E h=>?_) (fun f cdv A outer s H vs Q E hr h=>?_)
  · obtain ⟨t,nm,qu,a,kvs,tb,rfl,_⟩:=h
    rfl
  obtain ⟨t,nm,qu,a,kvs,tb,rfl,hn,hq,ok,hd,ha,tbA,lt,hN,q⟩:=h
  refine ⟨_,(pss_one (ps_ret (pe_callB (call_sumK K) rfl B.sum boot_sumB (pa_cons (pe_comp ["row"] [0,2] rfl (pi_listK K (pe_callF h_plain_rows (hr.mono (by decide)) rfl (pa_cons (pv 1) (pa_cons (pv 2) pa_nil)))) (fun _ _ _ _ _=>pg_name (i:=0) (by show List.Nodup (["row","name","table"]:List Str);decide +kernel) rfl (Or.inl rfl)) (fun _ _ _ _ _=>pts_nil) (fun _ _ _ _ _=>(pe_dget (hu1 hr) (pe_dget (hu1 hr) (pv 2) (pv 0) (fun _ _=>rfl)) (pv 1) (fun _ _=>rfl))) ⟨⟨_,rfl,rfl,.inl rfl⟩,⟨⟨_,rfl,rfl,.inl rfl⟩,trivial⟩⟩ gOwn_name) pa_nil)))),?_⟩
  walk_at "vc"
  refine ⟨t,qu,a,kvs,tb,rfl,hq,ok,hd,ha,tbA,lt,hN,fun l H1 s1 h1=>?_⟩
  have rl:=rowsT_len (t:=t) (tb:=tb)
  refine ⟨l,rfl,⟨_,SqL.of h1⟩,compL (fun _=>true) (valF tb nm) (SqL.of h1) (by rw [List.length_map];omega) (fun x H2 R hx s2 h=>?_) (fun x H2 R hx _ s2 h=>?_) (fun D fD=>?_)⟩
  · walk_at "vc"
    exact h
  · obtain ⟨r,hr,rfl⟩:=List.mem_map.mp hx
    walk_at "vc"
    have S:=s1.trans s2
    exact cell_at (Q:=fun y=>R y H2) hN (S _ _ ha) (tbA.same S) hn (rowsT_key hr) h
  rw [List.filter_eq_self.mpr (fun _ _=>rfl),valF_map]
  exact ⟨D,rfl,_,SqL.of upd_same,q _ (s1.trans (Same.new fD))⟩
def spPL (C:Kd→Addr)(N:List Str):Sp:=fun vs H Q _=>∃ (t:T) (nm:Str) (qu:V) (a:Addr) (kvs:List (Key × V)) (tb:Tab),vs=[.str nm,qu,.ref a]∧nm∈N∧QAt C H t qu∧t.ok N∧t.dep<30∧H a=some (.dK kvs)∧TbAt N H kvs tb∧tb.length≤20∧N.length=3∧(rowsT t tb=[]→∀ H',Same H H'→Q .non H')∧(∀ m∈(rowsT t tb).map (valR tb nm),(∀ y∈(rowsT t tb).map (valR tb nm),m≤y)→∀ p l H',Same H H'→H' p=some (.tup [.int m,.ref l])→H' l=some (.lst (((rowsT t tb).filter fun r=>decide (valR tb nm r=m)).map V.int))→Q (.ref p) H')
theorem ok_pl (B:Blt mg)(h_plain_rows:FnAt P w K mg base "plain_rows" ["question","table"] 32 (spPR C N))(d:DefAt K mg "plain_least" s_plain_least ["name","question","table"]):FnAt P w K mg base "plain_least" ["name","question","table"] 33 (spPL C N):=by
  refine FnAt.of d sc_plain_least (fun vs H Q E h=>?_) (fun f cdv A outer s H vs Q E hr h=>?_)
  · obtain ⟨t,nm,qu,a,kvs,tb,rfl,_⟩:=h
    rfl
  obtain ⟨t,nm,qu,a,kvs,tb,rfl,hn,hq,ok,hd,ha,tbA,lt,hN,q1,q2⟩:=h
  refine ⟨_,(pss_cons (ps_set (i:=3) sc_plain_least.nd rfl (by walk_at "l") (pe_callF h_plain_rows (hr.mono (by decide)) rfl (pa_cons (pv 1) (pa_cons (pv 2) pa_nil))))
      (pss_cons (ps_if (pt_cmpR (op_eqD K (hu64 hr)) (pv 3) (pe_lst pa_nil) (nomark _)) (pss_one (ps_ret pe_non)) pss_nil)
      (pss_cons (ps_set (i:=4) sc_plain_least.nd rfl (by walk_at "l") (pe_callB (call_minL K rfl) rfl B.min boot_minB (pa_cons (pe_comp ["row"] [0,2] rfl (pi_listK K (pv 3)) (fun _ _ _ _ _=>pg_name (i:=0) (by show List.Nodup (["row","name","table"]:List Str);decide +kernel) rfl (Or.inl rfl)) (fun _ _ _ _ _=>pts_nil) (fun _ _ _ _ _=>(pe_dget (hu1 hr) (pe_dget (hu1 hr) (pv 2) (pv 0) (fun _ _=>rfl)) (pv 1) (fun _ _=>rfl))) ⟨⟨_,rfl,rfl,.inl rfl⟩,⟨⟨_,rfl,rfl,.inl rfl⟩,trivial⟩⟩ gOwn_name) pa_nil)))
      (pss_one (ps_ret (pe_tup (pa_cons (pv 4) (pa_cons (pe_comp ["row"] [4,0,2] rfl (pi_listK K (pv 3)) (fun _ _ _ _ _=>pg_name (i:=0) (by show List.Nodup (["row","least","name","table"]:List Str);decide +kernel) rfl (Or.inl rfl)) (fun _ _ _ _ _=>pts_one (pt_cmpR op_eq (pe_dget (hu1 hr) (pe_dget (hu1 hr) (pv 3) (pv 0) (fun _ _=>rfl)) (pv 2) (fun _ _=>rfl)) (pv 1) (nomark _))) (fun _ _ _ _ _=>(pv 0)) ⟨⟨_,rfl,rfl,.inl rfl⟩,⟨⟨_,rfl,rfl,.inl rfl⟩,⟨⟨_,rfl,rfl,.inl rfl⟩,trivial⟩⟩⟩ gOwn_name) pa_nil)))))))),?_⟩
  have rl:=rowsT_len (t:=t) (tb:=tb)
  refine seq_step fun k hk=>?_
  walk_at "vc"
  refine ⟨t,qu,a,kvs,tb,rfl,hq,ok,hd,ha,tbA,lt,hN,fun l H1 s1 h1=>hk _ _ (seq_step fun k hk=>?_)⟩
  walk_at "vc"
  refine ⟨Nat.zero_le _,fun p0 f0=>rEqD_ints (ms:=[]) (SqL.of (Same.new f0 _ _ h1)) (SqL.of upd_same) ⟨_,rfl,?_⟩⟩
  have s0:=s1.trans (Same.new (o:=.lst []) f0)
  have h0:=Same.new (o:=.lst []) f0 _ _ h1
  by_cases c:rowsT t tb=[]
  · rw [decide_eq_true c,if_pos rfl]
    exact q1 c _ s0
  rw [decide_eq_false c,if_neg (by decide)]
  generalize upd H1 p0 (.lst [])=H2 at s0 h0 ⊢
  refine hk _ _ (seq_step fun k hk=>?_)
  walk_at "vc"
  refine ⟨⟨_,SqL.of h0⟩,compL (fun _=>true) (valF tb nm) (SqL.of h0) (by rw [List.length_map];omega) (fun x H3 R hx s3 h=>?_) (fun x H3 R hx _ s3 h=>?_) (fun D fD=>?_)⟩
  · walk_at "vc"
    exact h
  · obtain ⟨r,hr,rfl⟩:=List.mem_map.mp hx
    walk_at "vc"
    have S:=s0.trans s3
    exact cell_at (Q:=fun y=>R y H3) hN (S _ _ ha) (tbA.same S) hn (rowsT_key hr) h
  rw [List.filter_eq_self.mpr (fun _ _=>rfl),valF_map]
  have s3:=s0.trans (Same.new (o:=.lst (((rowsT t tb).map (valR tb nm)).map V.int)) fD)
  have h3:=Same.new (o:=.lst (((rowsT t tb).map (valR tb nm)).map V.int)) fD _ _ h0
  refine ⟨D,rfl,_,SqL.of upd_same,fun z=>c (List.map_eq_nil_iff.mp z),fun m hm hle=>hk _ _ ?_⟩
  generalize upd H2 D (.lst (((rowsT t tb).map (valR tb nm)).map V.int))=H3 at s3 h3 ⊢
  walk_at "vc"
  refine ⟨⟨_,SqL.of h3⟩,compL (fun v=>valF tb nm v=.int m) id (SqL.of h3) (by rw [List.length_map];omega) (fun x H4 R hx s4 h=>?_) (fun x H4 R hx _ s4 h=>?_) (fun D fD=>?_)⟩
  · obtain ⟨r,hr,rfl⟩:=List.mem_map.mp hx
    walk_at "vc"
    have S:=s3.trans s4
    exact cell_at (Q:=fun y=>scal y (V.int m)=true∧R (decide (y=V.int m)) H4) hN (S _ _ ha) (tbA.same S) hn (rowsT_key hr) ⟨rfl,h⟩
  · walk_at "vc"
    exact h
  rw [fil_val]
  exact ⟨by decide,fun p fp=>q2 m hm hle p D _ ((s3.trans (Same.new fD)).trans (Same.new fp)) upd_same (Same.new fp _ _ upd_same)⟩
end
def spSummed (K:PySem.W.Frag)(C:Kd→Addr)(N:List Str):Sp:=fun vs H Q _=>∃ (t:T) (nm:Str) (qu:V) (a r:Addr) (kvs:List (Key × V)) (tb:Tab),vs=[.str nm,qu,.ref a,.ref r]∧nm∈N∧QAt C H t qu∧t.ok N∧t.dep<30∧H a=some (.dK kvs)∧TbAt N H kvs tb∧tb.length≤20∧N.length=3∧H r=some (.lst ((rowsT t tb).map V.int))∧∀ H',Same H H'→Q (.bl true) H'
theorem rNeD_int {K:PySem.W.Frag}{H:Hp}{i:Int}{Q:VK}(q:Q (.bl false) H):rNeD K (.int i) (.int i) H Q:=by
  have sh:SeqAt.shaped (PyData.int i)=true:=shp lay_int (by rw [dep_int];decide)
  refine ⟨_,_,.int i,.int i,sh,sh,?_,?_⟩
  · unfold SeqAt.noMix
    rfl
  · have e:Spec.same (PyData.int i) (PyData.int i)=true:=by
      unfold Spec.same
      simp
    rw [e]
    exact q
section
variable {P:Program}{w:World}{K:PySem.W.Frag}{mg:Str→Option Value}{base:Heap}{C:Kd→Addr}{N:List Str}
theorem ok_summed (B:Blt mg)(h_l_whole:FnAt P w K mg base "_law_whole" ["_law_found"] 1 spWhole)(h_l_flat:FnAt P w K mg base "_law_flat" ["_law_found","_law_due"] 2 spFlat)(h_plain_total:FnAt P w K mg base "plain_total" ["name","question","table"] 33 (spPT C N))(h_plain_least:FnAt P w K mg base "plain_least" ["name","question","table"] 33 (spPL C N))(d:DefAt K mg "_law_summed" s_l_summed ["_law_name","_law_question","_law_table_here","_law_rows"]):FnAt P w K mg base "_law_summed" ["_law_name","_law_question","_law_table_here","_law_rows"] 34 (spSummed K C N):=by
  refine FnAt.of d sc_l_summed (fun vs H Q E h=>?_) (fun f cdv A outer s H vs Q E hr h=>?_)
  · obtain ⟨t,nm,qu,a,r,kvs,tb,rfl,_⟩:=h
    rfl
  obtain ⟨t,nm,qu,a,r,kvs,tb,rfl,hn,hq,ok,hd,ha,tbA,lt,hN,hr0,q⟩:=h
  refine ⟨_,(pss_cons (ps_set (i:=4) sc_l_summed.nd rfl (by walk_at "l") (pe_callF h_plain_total (hr.mono (by decide)) rfl (pa_cons (pv 0) (pa_cons (pv 1) (pa_cons (pv 2) pa_nil)))))
      (pss_cons (ps_if (PW.pt (pw_or (pt_not (pt_val (pe_callF h_l_whole (hr.mono (by decide)) rfl (pa_cons (pv 4) pa_nil)))) (pw_or1 (pt_cmpR (op_neD K (hu64 hr)) (pv 4) (pe_callB (call_sumK K) rfl B.sum boot_sumB (pa_cons (pe_comp ["_law_row"] [0,2] rfl (pi_listK K (pv 3)) (fun _ _ _ _ _=>pg_name (i:=0) (by show List.Nodup (["_law_row","_law_name","_law_table_here"]:List Str);decide +kernel) rfl (Or.inl rfl)) (fun _ _ _ _ _=>pts_nil) (fun _ _ _ _ _=>(pe_dget (hu1 hr) (pe_dget (hu1 hr) (pv 2) (pv 0) (fun _ _=>rfl)) (pv 1) (fun _ _=>rfl))) ⟨⟨_,rfl,rfl,.inl rfl⟩,⟨⟨_,rfl,rfl,.inl rfl⟩,trivial⟩⟩ gOwn_name) pa_nil)) (nomark _))))) (pss_one (ps_ret pe_bl)) pss_nil)
      (pss_cons (ps_set (i:=4) sc_l_summed.nd rfl (by walk_at "l") (pe_callF h_plain_least (hr.mono (by decide)) rfl (pa_cons (pv 0) (pa_cons (pv 1) (pa_cons (pv 2) pa_nil)))))
      (pss_cons (ps_if (pt_cmpR (op_eqD K (hu64 hr)) (pv 3) (pe_lst pa_nil) (nomark _)) (pss_one (ps_ret (pe_cmpR op_isN (pv 4) pe_non (nomark _)))) pss_nil)
      (pss_cons (ps_set (i:=5) sc_l_summed.nd rfl (by walk_at "l") (pe_callB (call_minL K rfl) rfl B.min boot_minB (pa_cons (pe_comp ["_law_row"] [0,2] rfl (pi_listK K (pv 3)) (fun _ _ _ _ _=>pg_name (i:=0) (by show List.Nodup (["_law_row","_law_name","_law_table_here"]:List Str);decide +kernel) rfl (Or.inl rfl)) (fun _ _ _ _ _=>pts_nil) (fun _ _ _ _ _=>(pe_dget (hu1 hr) (pe_dget (hu1 hr) (pv 2) (pv 0) (fun _ _=>rfl)) (pv 1) (fun _ _=>rfl))) ⟨⟨_,rfl,rfl,.inl rfl⟩,⟨⟨_,rfl,rfl,.inl rfl⟩,trivial⟩⟩ gOwn_name) pa_nil)))
      (pss_cons (ps_if (PW.pt (pw_or (pt_not (pt_val (pe_callB (call_isiK K) rfl B.isi boot_isi (pa_cons (pv 4) (pa_cons (pe_bltn (v:=.ty "tuple") rfl B.tup boot_tuple rfl) pa_nil))))) (pw_or (pt_cmpR op_ne (pe_callB (call_lenK K) rfl B.len PySem.boot_len (pa_cons (pv 4) pa_nil)) pe_int (nomark _)) (pw_or (pt_not (pt_val (pe_callF h_l_whole (hr.mono (by decide)) rfl (pa_cons (pe_ix (ix_tupK K) (pv 4) pe_int (fun _ _=>rfl)) pa_nil)))) (pw_or1 (pt_cmpR op_ne (pe_ix (ix_tupK K) (pv 4) pe_int (fun _ _=>rfl)) (pv 5) (nomark _))))))) (pss_one (ps_ret pe_bl)) pss_nil)
      (pss_one (ps_ret (pe_callF h_l_flat (hr.mono (by decide)) rfl (pa_cons (pe_ix (ix_tupK K) (pv 4) pe_int (fun _ _=>rfl)) (pa_cons (pe_comp ["_law_row"] [5,0,2] rfl (pi_listK K (pv 3)) (fun _ _ _ _ _=>pg_name (i:=0) (by show List.Nodup (["_law_row","_law_lowest","_law_name","_law_table_here"]:List Str);decide +kernel) rfl (Or.inl rfl)) (fun _ _ _ _ _=>pts_one (pt_cmpR op_eq (pe_dget (hu1 hr) (pe_dget (hu1 hr) (pv 3) (pv 0) (fun _ _=>rfl)) (pv 2) (fun _ _=>rfl)) (pv 1) (nomark _))) (fun _ _ _ _ _=>(pv 0)) ⟨⟨_,rfl,rfl,.inl rfl⟩,⟨⟨_,rfl,rfl,.inl rfl⟩,⟨⟨_,rfl,rfl,.inl rfl⟩,trivial⟩⟩⟩ gOwn_name) pa_nil))))))))))),?_⟩
  have rl:=rowsT_len (t:=t) (tb:=tb)
  refine seq_step fun k hk=>?_
  walk_at "vc"
  refine ⟨t,nm,qu,a,kvs,tb,rfl,hn,hq,ok,hd,ha,tbA,lt,hN,fun H1 s1=>hk _ _ (seq_step fun k hk=>?_)⟩
  walk_at "vc"
  refine ⟨_,rfl,_,rfl,?_⟩
  rw [if_neg (by decide)]
  have h1:=s1 _ _ hr0
  refine ⟨⟨_,SqL.of h1⟩,compL (fun _=>true) (valF tb nm) (SqL.of h1) (by rw [List.length_map];omega) (fun x H3 R hx s3 h=>?_) (fun x H3 R hx _ s3 h=>?_) (fun D fD=>?_)⟩
  · walk_at "vc"
    exact h
  · obtain ⟨r,hr,rfl⟩:=List.mem_map.mp hx
    walk_at "vc"
    have S:=s1.trans s3
    exact cell_at (Q:=fun y=>R y H3) hN (S _ _ ha) (tbA.same S) hn (rowsT_key hr) h
  rw [List.filter_eq_self.mpr (fun _ _=>rfl),valF_map]
  have s2:=s1.trans (Same.new (o:=.lst (((rowsT t tb).map (valR tb nm)).map V.int)) fD)
  have h2:=Same.new (o:=.lst (((rowsT t tb).map (valR tb nm)).map V.int)) fD _ _ h1
  refine ⟨D,rfl,_,SqL.of upd_same,rNeD_int ⟨_,rfl,?_⟩⟩
  rw [if_neg (by decide)]
  refine hk _ _ (seq_step fun k hk=>?_)
  generalize upd H1 D (.lst (((rowsT t tb).map (valR tb nm)).map V.int))=H2 at s2 h2 ⊢
  walk_at "vc"
  refine ⟨t,nm,qu,a,kvs,tb,rfl,hn,QAt.same s2 _ hq,ok,hd,s2 _ _ ha,tbA.same s2,lt,hN,fun c H3 s3=>hk _ _ (seq_step fun k hk=>?_),fun m hm hle p l H3 s3 h3 l3=>hk _ _ (seq_step fun k hk=>?_)⟩
  · walk_at "vc"
    have S:=s2.trans s3
    refine ⟨Nat.zero_le _,fun p0 f0=>rEqD_ints (ms:=[]) (SqL.of ((S.trans (Same.new f0)) _ _ hr0)) (SqL.of upd_same) ⟨_,rfl,?_⟩⟩
    rw [decide_eq_true c,if_pos rfl]
    exact q _ (S.trans (Same.new f0))
  · have c:rowsT t tb≠[]:=fun z=>by rw [z] at hm;cases hm
    have S:=s2.trans s3
    walk_at "vc"
    refine ⟨Nat.zero_le _,fun p0 f0=>rEqD_ints (ms:=[]) (SqL.of ((S.trans (Same.new f0)) _ _ hr0)) (SqL.of upd_same) ⟨_,rfl,?_⟩⟩
    rw [decide_eq_false c,if_neg (by decide)]
    have S4:=S.trans (Same.new (o:=.lst []) f0)
    have h4:=Same.new (o:=.lst []) f0 _ _ h3
    have l4:=Same.new (o:=.lst []) f0 _ _ l3
    generalize upd H3 p0 (.lst [])=H4 at S4 h4 l4 ⊢
    refine hk _ _ (seq_step fun k hk=>?_)
    walk_at "vc"
    have r4:=S4 _ _ hr0
    refine ⟨⟨_,SqL.of r4⟩,compL (fun _=>true) (valF tb nm) (SqL.of r4) (by rw [List.length_map];omega) (fun x H5 R hx s5 h=>?_) (fun x H5 R hx _ s5 h=>?_) (fun D fD=>?_)⟩
    · walk_at "vc"
      exact h
    · obtain ⟨r,hr,rfl⟩:=List.mem_map.mp hx
      walk_at "vc"
      have S:=S4.trans s5
      exact cell_at (Q:=fun y=>R y H5) hN (S _ _ ha) (tbA.same S) hn (rowsT_key hr) h
    rw [List.filter_eq_self.mpr (fun _ _=>rfl),valF_map]
    have S5:=S4.trans (Same.new (o:=.lst (((rowsT t tb).map (valR tb nm)).map V.int)) fD)
    have h5:=Same.new (o:=.lst (((rowsT t tb).map (valR tb nm)).map V.int)) fD _ _ h4
    have l5:=Same.new (o:=.lst (((rowsT t tb).map (valR tb nm)).map V.int)) fD _ _ l4
    refine ⟨D,rfl,_,SqL.of upd_same,fun z=>c (List.map_eq_nil_iff.mp z),fun m' hm' hle'=>hk _ _ (seq_step fun k hk=>?_)⟩
    have em:m'=m:=by
      have:=hle m' hm'
      have:=hle' m hm
      omega
    subst em
    generalize upd H4 D (.lst (((rowsT t tb).map (valR tb nm)).map V.int))=H5 at S5 h5 l5 ⊢
    walk_at "vc"
    refine rIsi_tup h5 ⟨_,rfl,?_⟩
    rw [if_neg (by decide)]
    refine ⟨_,.inr (.inl (.inl h5)),?_⟩
    rw [if_pos (by rfl)]
    refine ⟨_,.inl (.inl h5),_,rfl,_,rfl,_,rfl,?_⟩
    rw [if_neg (by decide)]
    refine ⟨_,.inl (.inl h5),_,rfl,rfl,?_⟩
    rw [if_pos rfl]
    refine hk _ _ ?_
    walk_at "vc"
    have r5:=S5 _ _ hr0
    refine ⟨_,.inl (.inl h5),_,rfl,⟨_,SqL.of r5⟩,compL (fun v=>valF tb nm v=.int m') id (SqL.of r5) (by rw [List.length_map];omega) (fun x H6 R hx s6 h=>?_) (fun x H6 R hx _ s6 h=>?_) (fun D fD=>?_)⟩
    · obtain ⟨r,hr,rfl⟩:=List.mem_map.mp hx
      walk_at "vc"
      have S:=S5.trans s6
      exact cell_at (Q:=fun y=>scal y (V.int m')=true∧R (decide (y=V.int m')) H6) hN (S _ _ ha) (tbA.same S) hn (rowsT_key hr) ⟨rfl,h⟩
    · walk_at "vc"
      exact h
    rw [fil_val]
    refine ⟨l,D,_,rfl,Same.new fD _ _ l5,upd_same,?_,fun H6 s6=>q _ (S5.trans ((Same.new fD).trans s6))⟩
    exact Nat.le_trans (List.length_filter_le _ _) (by omega)
end
def mW (ns:List Int):Int:=if ns.getD 1 0%3=0 then 8 else 3
def nmW (ns:List Int):List Str:=nms ns (mW ns)
def spBuilt (K:PySem.W.Frag):Sp:=fun vs H Q _=>∃ (sc:Addr) (ns:List Int) (m:Int),vs=[.ref sc,.int m]∧SqL K H sc (ns.map V.int)∧∀ t v H',Same H H'→TrAt K H' t v→t.ok (nmW ns)→t.dep≤19→t.nums.length≤120→Q v H'
structure BI (K:PySem.W.Frag)(N:List Str)(sc a c:Addr)(m:Int)(wd:Bool)(zs:List Int)(H:Hp)(i:Nat)(σ:L2.St)(H':Hp):Prop where
  ex:∃ (p:Addr) (lf no:Int) (us:List V) (its:List (T × Nat)) (v7 v8 v9 v10 v11:Option V),σ=[some (.ref sc),some (.int m),some (.bl wd),some (.ref a),some (.ref p),some (.int lf),some (.int no),v7,v8,v9,v10,v11]∧H' p=some (.lst us)∧Its K N (del H' p) us its∧its.length≤i∧nsum its≤2*i∧H p=none∧del H' p a=some (.lst (N.map V.str))∧del H' p c=some (.lst (zs.map V.int))
  sm:Same H H'
theorem cut60 (ns:List Int):∃ zs:List Int,cutV (ns.map V.int) (some 3) (some 63)=zs.map V.int∧zs.length≤60:=by
  have e:cutV (ns.map V.int) (some 3) (some 63)=((ns.drop (HT.sIx ns.length 0 (some 3))).take (HT.sIx ns.length ns.length (some 63)-HT.sIx ns.length 0 (some 3))).map V.int:=by
    unfold cutV
    rw [List.length_map,List.map_take,List.map_drop]
  refine ⟨_,e,?_⟩
  rw [show (3:Int)=((3:Nat):Int) from rfl,show (63:Int)=((63:Nat):Int) from rfl,HT.sIx_nat,HT.sIx_nat,List.length_take,List.length_drop]
  omega
theorem if_step {tt:TT}{a b:TS}{D:Ends}{σ:L2.St}{H:Hp}(h:∀ kb:L2.St→Hp→Prop,(∀ σ' H',b D σ' H'→kb σ' H')→tt σ H fun c H1=>if c=true then a D σ H1 else kb σ H1):tIfS tt a b D σ H:=h (b D) fun _ _ x=>x
theorem del_mn {H H':Hp}{p:Addr}(s:Same H H'):Same (del H p) (del H' p):=fun b o e=>by
  obtain ⟨n,e⟩:=del_some e
  rw [del_ne n]
  exact s _ _ e
section
variable {K:PySem.W.Frag}{N:List Str}{G H1:Hp}{us:List V}{its:List (T × Nat)}{a:Addr}{σ:L2.St}{Q:VK}
theorem comp_snd (hits:Its K N G us its)(sG:Same G H1)(hS:SqL K H1 a us)(hn:us.length≤1000000)(hq:∀ D H2,Same H1 H2→H2 D=some (.lst ((its.map fun x=>(x.2:Int)).map V.int))→Q (.ref D) H2) :
    CompJ (Itl K a) 1 [] (gName 0) tNoTest (tOp (rIxT K) (tVar 0) (tC (V.int 1))) σ H1 Q:=by
  refine compA (xs:=us) (fun i y _=>∀ x,its[i]?=some x→y=.int (x.2:Nat)) (fun _ _ _ _ _ h=>h) hS hn (fun i u H2 R hu s2 q2=>?_) (fun D ys H2 hD s2 h2 l2 h3=>?_)
  · have hl:=(List.getElem?_eq_some_iff.mp hu).1
    have gx:=List.getElem?_eq_getElem (l:=its) (i:=i) (by rw [← hits.len];exact hl)
    obtain ⟨⟨q,v,rfl,h1,_⟩,_⟩:=hits.it i u _ hu gx
    walk_at "vc"
    exact ⟨_,sqT_same (sG.trans s2) h1,_,rfl,q2 _ _ (Same.refl _) fun x hx=>by cases gx.symm.trans hx;rfl⟩
  · have e:ys=(its.map fun x=>(x.2:Int)).map V.int:=by
      refine List.ext_getElem (by rw [List.length_map,List.length_map,l2,hits.len]) fun i a1 a2=>?_
      have hl:i<its.length:=by rw [← hits.len,← l2];exact a1
      have:=h3 i _ (List.getElem?_eq_getElem a1) _ (List.getElem?_eq_getElem hl)
      rw [this,List.getElem_map,List.getElem_map]
    exact hq D H2 s2 (e ▸ h2)
theorem comp_fst (hits:Its K N G us its)(sG:Same G H1)(hS:SqL K H1 a us)(hn:us.length≤1000000)(hq:∀ D ys H2,H1 D=none→Same H1 H2→H2 D=some (.lst ys)→ys.length=its.length→(∀ (i:Nat) y x,ys[i]?=some y→its[i]?=some x→TrAt K G x.1 y)→Q (.ref D) H2) :
    CompJ (Itl K a) 1 [] (gName 0) tNoTest (tOp (rIxT K) (tVar 0) (tC (V.int 0))) σ H1 Q:=by
  refine compA (xs:=us) (fun i y _=>∀ x,its[i]?=some x→TrAt K G x.1 y) (fun _ _ _ _ _ h=>h) hS hn (fun i u H2 R hu s2 q2=>?_) (fun D ys H2 hD s2 h2 l2 h3=>hq D ys H2 hD s2 h2 (by rw [l2,hits.len]) fun i y x hy hx=>h3 i y hy x hx)
  have hl:=(List.getElem?_eq_some_iff.mp hu).1
  have gx:=List.getElem?_eq_getElem (l:=its) (i:=i) (by rw [← hits.len];exact hl)
  obtain ⟨⟨q,v,rfl,h1,h2⟩,_⟩:=hits.it i u _ hu gx
  walk_at "vc"
  exact ⟨_,sqT_same (sG.trans s2) h1,_,rfl,q2 _ _ (Same.refl _) fun x hx=>by cases gx.symm.trans hx;exact h2⟩
end
theorem new_del {H:Hp}{p:Addr}{o:HO}(h:H p=none):Same H (del (upd H p o) p):=fun b ob e=>by
  rw [del_ne (ne_of_none e h),upd_ne (ne_of_none e h)]
  exact e
theorem andor {K:PySem.W.Frag}{N:List Str}(ts:Ts){z:Int}(h:z=0∨z=1):∃ (w:Str) (t:T),atI [V.str (Str.ofString "and"),V.str (Str.ofString "or")] z=some (.str w)∧(∀ G q l us,SqT K G q [.str w,.ref l]→SqL K G l us→TrsAt K G ts us→TrAt K G t (.ref q))∧t.dep=ts.dep+1∧(ts.toL.length≤1000→ts.ok N→t.ok N)∧t.nums=ts.nums:=by
  rcases h with rfl | rfl
  · exact ⟨_,.al ts,rfl,fun G q l us a b c=>⟨q,l,us,rfl,a,b,c⟩,rfl,fun a b=>⟨a,b⟩,rfl⟩
  · exact ⟨_,.on ts,rfl,fun G q l us a b c=>⟨q,l,us,rfl,a,b,c⟩,rfl,fun a b=>⟨a,b⟩,rfl⟩
theorem cat_end {Ha:Hp}{p2 q:Addr}{us:List V}(R:Addr→Hp→Prop)(h2:Ha p2=some (.lst us))(hl:us.length≤1000)(fin:∀ pb H',Ha pb=none→Same Ha H'→Same Ha (del H' pb)→H' pb=some (.lst (us++[.ref q]))→R pb H') :
    1≤sizeLine∧∀ pa,Ha pa=none→∃ x,upd Ha pa (.lst [.ref q]) p2=some (.lst x)∧∃ x1,upd Ha pa (.lst [.ref q]) pa=some (.lst x1)∧x.length+x1.length≤sizeLine∧∀ pb,upd Ha pa (.lst [.ref q]) pb=none→R pb (upd (upd Ha pa (.lst [.ref q])) pb (.lst (x++x1))):=by
  refine ⟨by decide,fun pa fa=>⟨us,Same.new fa _ _ h2,[.ref q],upd_same,small5 (by show _+1≤_;omega),fun pb fb=>fin pb _ ((Same.new fa).free fb) ((Same.new fa).trans (Same.new fb)) ((Same.new fa).trans (new_del fb)) upd_same⟩⟩
theorem Its.trs {K:PySem.W.Frag}{N:List Str}{G G':Hp}{us ys:List V}{its:List (T × Nat)}(h:Its K N G us its)(l:ys.length=its.length)(e:∀ (i:Nat) y x,ys[i]?=some y→its[i]?=some x→TrAt K G' x.1 y):TrsAt K G' (Ts.ofL (its.map (·.1))) ys∧(Ts.ofL (its.map (·.1))).ok N∧(Ts.ofL (its.map (·.1))).toL.length=its.length:=by
  refine ⟨TrsAt.mk _ (by rw [List.length_map,l]) fun i u t hu ht=>?_,Ts.ok_ofL _ fun t ht=>?_,by rw [Ts.toL_ofL,List.length_map]⟩
  · rw [List.getElem?_map] at ht
    cases c:its[i]? with
    | none=>rw [c] at ht;cases ht
    | some x=>rw [c] at ht;cases ht;exact e i u x hu c
  · obtain ⟨x,hx,rfl⟩:=List.mem_map.mp ht
    obtain ⟨u,hu⟩:=h.mem hx
    exact hu.ok
theorem Its.trsDep {K:PySem.W.Frag}{N:List Str}{G:Hp}{us:List V}{its:List (T × Nat)}(h:Its K N G us its){d:Nat}(hd:∀ x∈its,x.2≤d):(Ts.ofL (its.map (·.1))).dep≤d:=by
  refine Ts.dep_ofL _ fun t ht=>?_
  obtain ⟨x,hx,rfl⟩:=List.mem_map.mp ht
  obtain ⟨u,hu⟩:=h.mem hx
  exact Nat.le_trans hu.dep (hd x hx)
section
variable {P:Program}{w:World}{K:PySem.W.Frag}{mg:Str→Option Value}{base:Heap}
theorem ok_built (B:Blt mg)(h_l_mixed:FnAt P w K mg base "_law_mixed" ["_law_cell","_law_k"] 1 spMixed)(h_l_cell_at:FnAt P w K mg base "_law_cell_at" ["_law_script","_law_k"] 1 (spCell K))(h_l_names:FnAt P w K mg base "_law_names" ["_law_script","_law_most"] 2 (spNames K))(h_l_leaf:FnAt P w K mg base "_law_leaf" ["_law_cell","_law_names_here","_law_wide"] 2 (spLeaf K))(d:DefAt K mg "_law_built" s_l_built ["_law_script","_law_most"]):FnAt P w K mg base "_law_built" ["_law_script","_law_most"] 3 (spBuilt K):=by
  refine FnAt.of d sc_l_built (fun vs H Q E h=>?_) (fun f cdv A outer s H vs Q E hr h=>?_)
  · obtain ⟨sc,ns,m,rfl,_⟩:=h
    rfl
  obtain ⟨sc,ns,m,rfl,hS,q⟩:=h
  refine ⟨_,(pss_cons (ps_set (i:=2) sc_l_built.nd rfl (by walk_at "l") (pe_cmpR op_eq (pe_op op_mod (pe_callF h_l_cell_at (hr.mono (by decide)) rfl (pa_cons (pv 0) (pa_cons pe_int pa_nil))) pe_int) pe_int (nomark _)))
      (pss_cons (ps_set (i:=3) sc_l_built.nd rfl (by walk_at "l") (pe_callF h_l_names (hr.mono (by decide)) rfl (pa_cons (pv 0) (pa_cons (pe_ix (ix_listK K) (pe_lst (pa_cons pe_int (pa_cons pe_int pa_nil))) (pe_callTy call_int1 rfl B.int boot_int (pa_cons (pv 2) pa_nil)) (fun _ _=>rfl)) pa_nil))))
      (pss_cons (ps_set (i:=4) sc_l_built.nd rfl (by walk_at "l") (pe_lst pa_nil))
      (pss_cons (ps_set (i:=5) sc_l_built.nd rfl (by walk_at "l") (pe_ix (ix_listK K) (pe_lst (pa_cons (pv 1) (pa_cons (pe_callB (call_min2 rfl) rfl B.min boot_minB (pa_cons (pv 1) (pa_cons pe_int pa_nil))) pa_nil))) (pe_callTy call_int1 rfl B.int boot_int (pa_cons (pv 2) pa_nil)) (fun _ _=>rfl)))
      (pss_cons (ps_set (i:=6) sc_l_built.nd rfl (by walk_at "l") pe_int)
      (pss_cons (ps_for PassesOwn.never rfl (pi_listK K (pe_slice (sl_listK K) (pv 0) (po_some pe_int) (po_some pe_int))) (pg_name (i:=7) sc_l_built.nd rfl (by walk_at "l")) (pss_cons (ps_set (i:=8) sc_l_built.nd rfl (by walk_at "l") (pe_callF h_l_mixed (hr.mono (by decide)) rfl (pa_cons (pv 7) (pa_cons pe_int pa_nil))))
      (pss_cons (ps_set (i:=9) sc_l_built.nd rfl (by walk_at "l") (pe_callB (call_min2 rfl) rfl B.min boot_minB (pa_cons (pe_callB (call_lenK K) rfl B.len PySem.boot_len (pa_cons (pv 4) pa_nil)) (pa_cons (pe_op op_add pe_int (pe_op op_mod (pe_op op_fdiv (pv 8) pe_int) pe_int)) pa_nil))))
      (pss_cons (ps_set (i:=10) sc_l_built.nd rfl (by walk_at "l") (pe_callBK (call_maxDK K) rfl B.max boot_maxB (pa_cons (pe_comp ["_law_item"] [] rfl (pi_listK K (pe_slice (sl_listK K) (pv 4) (po_some (pe_op op_sub (pe_callB (call_lenK K) rfl B.len PySem.boot_len (pa_cons (pv 4) pa_nil)) (pv 9))) po_none)) (fun _ _ _ _ _=>pg_name (i:=0) (by show List.Nodup (["_law_item"]:List Str);decide +kernel) rfl (Or.inl rfl)) (fun _ _ _ _ _=>pts_nil) (fun _ _ _ _ _=>(pe_ix (ix_tupK K) (pv 0) pe_int (fun _ _=>rfl))) trivial gOwn_name) pa_nil) (pk_cons pe_int pk_nil)))
      (pss_one (ps_if (PW.pt (pw_and (pt_cmpR op_gt (pe_op op_mod (pv 8) pe_int) pe_int (nomark _)) (pw_and (pt_cmpR op_gt (pv 9) pe_int (nomark _)) (pw_and1 (pt_cmpR op_lt (pv 10) pe_int (nomark _)))))) (pss_cons (ps_setcomp (i:=11) ["_law_item"] [] sc_l_built.nd rfl (by walk_at "l") rfl (pi_listK K (pe_slice (sl_listK K) (pv 4) (po_some (pe_op op_sub (pe_callB (call_lenK K) rfl B.len PySem.boot_len (pa_cons (pv 4) pa_nil)) (pv 9))) po_none)) (fun _ _ _ _ _=>pg_name (i:=0) (by show List.Nodup (["_law_item"]:List Str);decide +kernel) rfl (Or.inl rfl)) (fun _ _ _ _ _=>pts_nil) (fun _ _ _ _ _=>(pe_ix (ix_tupK K) (pv 0) pe_int (fun _ _=>rfl))) trivial gOwn_name)
      (pss_one (ps_set (i:=4) sc_l_built.nd rfl (by walk_at "l") (pe_op op_cat (pe_slice (sl_listK K) (pv 4) po_none (po_some (pe_op op_sub (pe_callB (call_lenK K) rfl B.len PySem.boot_len (pa_cons (pv 4) pa_nil)) (pv 9)))) (pe_lst (pa_cons (pe_tup (pa_cons (pe_tup (pa_cons (pe_ix (ix_listK K) (pe_lst (pa_cons pe_str (pa_cons pe_str pa_nil))) (pe_op op_mod (pe_op op_fdiv (pv 8) pe_int) pe_int) (fun _ _=>rfl)) (pa_cons (pv 11) pa_nil))) (pa_cons (pe_op op_add (pv 10) pe_int) pa_nil))) pa_nil)))))) (pss_one (ps_if (PW.pt (pw_and (pt_cmpR op_eq (pe_op op_mod (pv 8) pe_int) pe_int (nomark _)) (pw_and (pt_cmpR op_gt (pv 6) pe_int (nomark _)) (pw_and (pt_cmpR op_gt (pv 9) pe_int (nomark _)) (pw_and1 (pt_cmpR op_lt (pv 10) pe_int (nomark _))))))) (pss_cons (ps_set (i:=6) sc_l_built.nd rfl (by walk_at "l") (pe_op op_sub (pv 6) pe_int))
      (pss_one (ps_set (i:=4) sc_l_built.nd rfl (by walk_at "l") (pe_op op_cat (pe_slice (sl_listK K) (pv 4) po_none (po_some (pe_un un_neg pe_int))) (pe_lst (pa_cons (pe_tup (pa_cons (pe_tup (pa_cons pe_str (pa_cons (pe_ix (ix_tupK K) (pe_ix (ix_listK K) (pv 4) (pe_un un_neg pe_int) (fun _ _=>rfl)) pe_int (fun _ _=>rfl)) pa_nil))) (pa_cons (pe_op op_add (pe_ix (ix_tupK K) (pe_ix (ix_listK K) (pv 4) (pe_un un_neg pe_int) (fun _ _=>rfl)) pe_int (fun _ _=>rfl)) pe_int) pa_nil))) pa_nil)))))) (pss_one (ps_if (pt_cmpR op_gt (pv 5) pe_int (nomark _)) (pss_cons (ps_set (i:=5) sc_l_built.nd rfl (by walk_at "l") (pe_op op_sub (pv 5) pe_int))
      (pss_one (ps_expr (pe_bmK K PySem.F.plainAttrs_list PySem.F.slot_list_append PySem.F.type_list_append mt_append (pv 4) (pa_cons (pe_tup (pa_cons (pe_callF h_l_leaf (hr.mono (by decide)) rfl (pa_cons (pv 7) (pa_cons (pv 3) (pa_cons (pv 2) pa_nil)))) (pa_cons pe_int pa_nil))) pa_nil))))) pss_nil))))))))))
      (pss_cons (ps_if (pt_cmpR op_eq (pe_callB (call_lenK K) rfl B.len PySem.boot_len (pa_cons (pv 4) pa_nil)) pe_int (nomark _)) (pss_one (ps_ret (pe_ix (ix_tupK K) (pe_ix (ix_listK K) (pv 4) pe_int (fun _ _=>rfl)) pe_int (fun _ _=>rfl)))) pss_nil)
      (pss_cons (ps_if (pt_cmpR (op_eqD K (hu64 hr)) (pv 4) (pe_lst pa_nil) (nomark _)) (pss_one (ps_ret (pe_tup (pa_cons pe_str pa_nil)))) pss_nil)
      (pss_one (ps_ret (pe_tup (pa_cons (pe_ix (ix_listK K) (pe_lst (pa_cons pe_str (pa_cons pe_str pa_nil))) (pe_op op_mod (pe_callF h_l_cell_at (hr.mono (by decide)) rfl (pa_cons (pv 0) (pa_cons pe_int pa_nil))) pe_int) (fun _ _=>rfl)) (pa_cons (pe_comp ["_law_item"] [] rfl (pi_listK K (pv 4)) (fun _ _ _ _ _=>pg_name (i:=0) (by show List.Nodup (["_law_item"]:List Str);decide +kernel) rfl (Or.inl rfl)) (fun _ _ _ _ _=>pts_nil) (fun _ _ _ _ _=>(pe_ix (ix_tupK K) (pv 0) pe_int (fun _ _=>rfl))) trivial gOwn_name) pa_nil))))))))))))),?_⟩
  refine seq_step fun k hk=>?_
  walk_at "vc"
  refine ⟨sc,ns,1,rfl,hS,_,rfl,hk _ _ (seq_step fun k hk=>?_)⟩
  have eN:∀ b:Bool,b=decide (ns.getD 1 0%3=0)→(if b then 8 else 3)=mW ns:=fun b e=>by
    unfold mW
    rw [e]
    by_cases c:ns.getD 1 0%3=0
    · rw [decide_eq_true c,if_pos c];rfl
    · rw [decide_eq_false c,if_neg c];rfl
  generalize ew:decide (ns.getD 1 0%3=0)=wd at eN ⊢
  have eN:=eN wd rfl
  walk_at "vc"
  refine ⟨by decide,fun p0 h0=>⟨_,SqL.of upd_same,.int (mW ns),?_,sc,ns,mW ns,rfl,(Same.new h0).seq hS,?_,?_,fun a H1 s1 ha=>hk _ _ (seq_step fun k hk=>?_)⟩⟩
  · rw [← eN]
    cases wd
    · exact (rfl:atI [V.int 3,V.int 8] 0=some (.int 3))
    · exact (rfl:atI [V.int 3,V.int 8] 1=some (.int 8))
  · unfold mW;split<;>decide
  · unfold mW;split<;>decide
  have s1:=(Same.new (o:=.lst [V.int 3,V.int 8]) h0).trans s1
  have ha:H1 a=some (.lst ((nmW ns).map V.str)):=ha
  have hS1:=s1.seq hS
  clear eN h0
  walk_at "vc"
  refine ⟨Nat.zero_le _,fun p hp=>hk _ _ (seq_step fun k hk=>?_)⟩
  have s2:=Same.new (o:=.lst []) hp
  have h2:upd H1 p (.lst []) p=some (.lst []):=upd_same
  have nap:a≠p:=ne_of_none ha hp
  have ha2:=s2 _ _ ha
  have hS2:=s2.seq hS1
  have fp:=s1.free hp
  have s2:=s1.trans s2
  generalize upd H1 p (.lst [])=H2 at s2 h2 ha2 hS2 ⊢
  clear hS1 ha hp
  walk_at "vc"
  obtain ⟨lf,hlf⟩:∃ lf:Int,atI [V.int m,V.int (if 9<m then 9 else m)] (if wd=true then 1 else 0)=some (.int lf):=by cases wd<;>exact ⟨_,rfl⟩
  refine ⟨_,_,⟨rfl,rfl⟩,by decide,fun p1 h1=>⟨_,SqL.of upd_same,_,hlf,hk _ _ (seq_step fun k hk=>?_)⟩⟩
  have s3:=Same.new (o:=.lst [V.int m,V.int (if 9<m then 9 else m)]) h1
  have h3:=s3 _ _ h2
  have ha3:=s3 _ _ ha2
  have hS3:=s3.seq hS2
  have s3:=s2.trans s3
  generalize upd H2 p1 (.lst [V.int m,V.int (if 9<m then 9 else m)])=H3 at s3 h3 ha3 hS3 ⊢
  clear s2 h2 ha2 hS2 h1
  walk_at "vc"
  refine hk _ _ (seq_step fun k hk=>?_)
  walk_at "vc"
  refine ⟨_,hS3,fun c hc=>?_⟩
  obtain ⟨zs,ez,lz⟩:=cut60 ns
  rw [ez]
  have s4:=Same.new (o:=.lst (zs.map V.int)) hc
  have h4:=s4 _ _ h3
  have ha4:=s4 _ _ ha3
  have hc4:upd H3 c (.lst (zs.map V.int)) c=some (.lst (zs.map V.int)):=upd_same
  have nc:c≠p:=(ne_of_none h3 hc).symm
  have s4:=s3.trans s4
  generalize upd H3 c (.lst (zs.map V.int))=H4 at s4 h4 ha4 hc4 ⊢
  refine ⟨⟨_,SqL.of hc4⟩,loopL (K:=K) (xs:=zs.map V.int) (BI K (nmW ns) sc a c m wd zs H) ⟨⟨p,lf,6,[],[],_,_,_,_,_,rfl,h4,⟨rfl,fun i u x e=>by cases e⟩,Nat.le_refl _,Nat.le_refl _,fp,by rw [del_ne nap];exact ha4,by rw [del_ne nc];exact hc4⟩,s4⟩ (fun i σ H' _ h=>?_) ?_ ?_⟩
  · obtain ⟨⟨p,lf,no,us,its,_,_,_,_,_,_,_,_,_,_,_,_,hc⟩,_⟩:=h
    exact SqL.of (del_sub _ _ hc)
  · clear s4 h4 ha4 hc4 nc s3 h3 ha3 hS3 hc hlf fp nap
    rintro i x σ H5 hi ⟨⟨p,lf,no,us,its,v7,v8,v9,v10,v11,rfl,hp,hits,li,ni,fp,ha,hc⟩,s5⟩
    obtain ⟨z,hz,rfl⟩:∃ z,zs[i]?=some z∧x=V.int z:=by
      rw [List.getElem?_map] at hi
      cases e:zs[i]? with
      | none=>rw [e] at hi;cases hi
      | some z=>rw [e] at hi;cases hi;exact ⟨z,rfl,rfl⟩
    rw [gName_ap]
    refine seq_step fun k hk=>?_
    walk_at "vc"
    refine ⟨_,_,rfl,hk _ _ (seq_step fun k hk=>?_)⟩
    generalize mixI z 1=y
    walk_at "vc"
    refine ⟨_,.inl (SqL.of hp),_,_,⟨rfl,rfl⟩,?_⟩
    obtain ⟨mn,emn,lmn⟩:∃ mn:Nat,(if 2+y/8%3<(us.length:Int) then 2+y/8%3 else (us.length:Int))=(mn:Int)∧mn≤us.length:=by
      split
      · exact ⟨(2+y/8%3).toNat,by omega,by omega⟩
      · exact ⟨us.length,rfl,Nat.le_refl _⟩
    rw [emn]
    refine hk _ _ (seq_step fun k hk=>?_)
    clear emn
    have esub:((us.length:Int)-(mn:Int))=((us.length-mn:Nat):Int):=by omega
    walk_at "vc"
    refine ⟨_,.inl (SqL.of hp),_,SqL.of hp,fun p6 h6=>?_⟩
    rw [esub,cutV_from us (by omega)]
    have s6:=Same.new (o:=.lst (us.drop (us.length-mn))) h6
    refine ⟨⟨_,SqL.of upd_same⟩,comp_snd (hits.drop (us.length-mn)) (del_sub.trans s6) (SqL.of upd_same) (by rw [List.length_drop,hits.len];have:=lz;have:=(List.getElem?_eq_some_iff.mp hz).1;omega) fun D H7 s7 h7=>⟨D,rfl,_,SqL.of h7,?_⟩⟩
    obtain ⟨dp,edp,hdp⟩:=max_of ((its.drop (us.length-mn)).map (·.2))
    rw [List.map_map] at edp
    have edp:((its.drop (us.length-mn)).map fun x=>(x.2:Int)).max?.getD 0=(dp:Int):=edp
    rw [edp]
    have s7:=s6.trans s7
    have hp:=s7 _ _ hp
    have hits:=hits.same (del_mn (p:=p) s7)
    have ha:=del_mn (p:=p) s7 _ _ ha
    have hc:=del_mn (p:=p) s7 _ _ hc
    have s5:=s5.trans s7
    clear h7 s7 s6 edp h6 esub
    have zl:=(List.getElem?_eq_some_iff.mp hz).1
    refine hk _ _ (if_step fun kb hkb=>?_)
    have el : kb [some (.ref sc),some (.int m),some (.bl wd),some (.ref a),some (.ref p),some (.int lf),some (.int no),some (.int z),some (.int y),some (.int mn),some (.int dp),v11] H7:=by
      refine hkb _ _ (if_step fun kb hkb=>?_)
      have el:kb [some (.ref sc),some (.int m),some (.bl wd),some (.ref a),some (.ref p),some (.int lf),some (.int no),some (.int z),some (.int y),some (.int mn),some (.int dp),v11] H7:=by
        refine hkb _ _ ?_
        walk_at "vc"
        by_cases c1:0<lf
        · rw [if_pos c1]
          refine ⟨⟨_,SqL.of hp⟩,z,a,nmW ns,wd,rfl,SqL.of (del_sub _ _ ha),nms_len _ _,fun t v H8 s8 t8 d8 o8 n8=>⟨by decide,fun p9 h9=>?_⟩⟩
          have s9:=s8.trans (Same.new (o:=.tup [v,V.int 1]) h9)
          have np:p9≠p:=(ne_of_none (s8 _ _ hp) h9).symm
          refine ⟨us,s9 _ _ hp,small5' (by rw [hits.len];omega),⟨p,lf-1,no,us++[.ref p9],its++[(t,1)],_,_,_,_,_,rfl,upd_same,(hits.same (del_put s9)).snoc ⟨⟨p9,v,rfl,.inl (.inl ?_),TrAt.same (new_put hp (Same.new h9)) _ t8⟩,d8,(by decide:1≤18),o8⟩,by rw [List.length_append];exact Nat.succ_le_succ li,by rw [nsum_app,nsum_one];show _+t.nums.length≤_;omega,fp,del_put s9 _ _ ha,del_put s9 _ _ hc⟩,(s5.trans s9).put fp⟩
          rw [del_ne np,upd_ne np]
          exact upd_same
        · rw [if_neg c1]
          exact ⟨⟨p,lf,no,us,its,_,_,_,_,_,rfl,hp,hits,by omega,by omega,fp,ha,hc⟩,s5⟩
      walk_at "vc"
      by_cases c1:y%8=5
      · rw [if_pos c1]
        by_cases c2:0<no
        · rw [if_pos c2]
          by_cases c3:0<(mn:Int)
          · rw [if_pos c3]
            by_cases c4:(dp:Int)<17
            · rw [if_pos c4]
              have ul:us.length-1<us.length:=by omega
              have gu:=List.getElem?_eq_getElem ul
              obtain ⟨x,gx⟩:∃ x,its[us.length-1]?=some x:=⟨_,List.getElem?_eq_getElem (by rw [← hits.len];exact ul)⟩
              have eu:us=us.take (us.length-1)++[us[us.length-1]]:=by
                rw [List.take_append_getElem,Nat.sub_add_cancel (by omega),List.take_length]
              have al:atI us (-1)=some us[us.length-1]:=by
                have:=atI_last (us.take (us.length-1)) us[us.length-1]
                rw [← eu] at this
                exact this
              generalize eux:us[us.length-1]=u at gu al eu
              have hx:=hits.it _ _ _ gu gx
              have dx:x.2≤dp:=by
                refine hdp _ (List.mem_map.mpr ⟨x,List.mem_of_getElem? (i:=mn-1) ?_,rfl⟩)
                rw [List.getElem?_drop,show us.length-mn+(mn-1)=us.length-1 by omega]
                exact gx
              obtain ⟨⟨q0,v,rfl,h1,h2⟩,xd,xt,xo⟩:=hx
              refine ⟨_,SqL.of hp,fun p1 f1=>⟨_,SqL.of (Same.new f1 _ _ hp),_,al,q0,rfl,_,sqT_same (del_sub.trans (Same.new f1)) h1,_,rfl,by decide,fun p3 f3=>⟨_,SqL.of (((Same.new f1).trans (Same.new f3)) _ _ hp),_,al,q0,rfl,_,sqT_same (del_sub.trans ((Same.new f1).trans (Same.new f3))) h1,_,rfl,_,rfl,by decide,fun p4 f4=>?_⟩⟩⟩
              have S:=((Same.new (o:=.lst (cutV us none (some (-1)))) f1).trans (Same.new (o:=.tup [V.str (Str.ofString "not"),v]) f3)).trans (Same.new (o:=.tup [V.ref p3,V.int ((x.2:Int)+2)]) f4)
              have hl:upd (upd (upd H7 p1 (.lst (cutV us none (some (-1))))) p3 (.tup [V.str (Str.ofString "not"),v])) p4 (.tup [V.ref p3,V.int ((x.2:Int)+2)]) p1=some (.lst (us.take (us.length-1))):=((Same.new f3).trans (Same.new f4)) _ _ (by rw [upd_same,cutV_last])
              have t3:TrAt K (upd (upd (upd H7 p1 (.lst (cutV us none (some (-1))))) p3 (.tup [V.str (Str.ofString "not"),v])) p4 (.tup [V.ref p3,V.int ((x.2:Int)+2)])) (.opp x.1) (.ref p3):=⟨p3,v,rfl,.inl (.inl (Same.new f4 _ _ upd_same)),TrAt.same (del_sub.trans S) _ h2⟩
              have h4:upd (upd (upd H7 p1 (.lst (cutV us none (some (-1))))) p3 (.tup [V.str (Str.ofString "not"),v])) p4 (.tup [V.ref p3,V.int ((x.2:Int)+2)]) p4=some (.tup [V.ref p3,V.int ((x.2+2:Nat):Int)]):=upd_same
              generalize upd (upd (upd H7 p1 (.lst (cutV us none (some (-1))))) p3 (.tup [V.str (Str.ofString "not"),v])) p4 (.tup [V.ref p3,V.int ((x.2:Int)+2)])=Ha at S hl t3 h4 ⊢
              have nx:nsum its=nsum (its.take (us.length-1))+x.1.nums.length:=by
                rw [← nsum_cut its (us.length-1),List.drop_eq_getElem_cons (by rw [← hits.len];exact ul),List.drop_of_length_le (by rw [hits.len];omega),nsum_one]
                rw [List.getElem?_eq_getElem (by rw [← hits.len];exact ul)] at gx
                cases gx
                rfl
              have it:It K (nmW ns) Ha (.ref p4) (.opp x.1,x.2+2):=⟨⟨p4,_,rfl,.inl (.inl h4),t3⟩,by show x.1.dep+1≤x.2+2;omega,by show x.2+2≤18;omega,xo⟩
              refine cat_end (fun pb H'=>BI K (nmW ns) sc a c m wd zs H (i+1) [some (.ref sc),some (.int m),some (.bl wd),some (.ref a),some (.ref pb),some (.int lf),some (.int (no-1)),some (.int z),some (.int y),some (.int mn),some (.int dp),v11] H') hl (by rw [List.length_take,hits.len];omega) fun pb H' fb sb db hb=>?_
              have mv:=del_mv (p:=p) (S.trans sb) (S.free fb)
              exact ⟨⟨pb,lf,no-1,_,its.take (us.length-1)++[(.opp x.1,x.2+2)],_,_,_,_,_,rfl,hb,((hits.take (us.length-1)).same mv).snoc (it.same db),by rw [List.length_append,List.length_take];show _+1≤_;omega,by rw [nsum_app,nsum_one];show _+x.1.nums.length≤_;omega,s5.free (S.free fb),mv _ _ ha,mv _ _ hc⟩,s5.trans (S.trans sb)⟩
            · rw [if_neg c4]
              exact el
          · rw [if_neg c3]
            exact el
        · rw [if_neg c2]
          exact el
      · rw [if_neg c1]
        exact el
    walk_at "vc"
    by_cases c1:5<y%8
    · rw [if_pos c1]
      by_cases c2:1<(mn:Int)
      · rw [if_pos c2]
        by_cases c3:(dp:Int)<18
        · rw [if_pos c3]
          refine ⟨_,.inl (SqL.of hp),_,SqL.of hp,fun p1 f1=>?_⟩
          have esub:((us.length:Int)-(mn:Int))=((us.length-mn:Nat):Int):=by omega
          rw [esub,cutV_from us (by omega)]
          have s8:=Same.new (o:=.lst (us.drop (us.length-mn))) f1
          refine ⟨⟨_,SqL.of upd_same⟩,comp_fst (hits.drop (us.length-mn)) (del_sub.trans s8) (SqL.of upd_same) (by rw [List.length_drop,hits.len];omega) fun D ys H9 hD s9 h9 l9 t9=>?_⟩
          have s9:=s8.trans s9
          refine ⟨_,.inl (SqL.of (s9 _ _ hp)),_,SqL.of (s9 _ _ hp),fun p2 f2=>⟨by decide,fun p3 f3=>⟨_,SqL.of upd_same,?_⟩⟩⟩
          rw [esub,cutV_to us (by omega)]
          rw [esub,cutV_to us (by omega)] at f3
          obtain ⟨w,t,hw,ht1,ht2,ht3,ht4⟩:=andor (K:=K) (N:=nmW ns) (Ts.ofL ((its.drop (us.length-mn)).map (·.1))) (z:=y/24%2) (by omega)
          refine ⟨_,hw,by decide,fun p4 f4=>⟨by decide,fun p5 f5=>?_⟩⟩
          have S:=(((s9.trans (Same.new (o:=.lst (us.take (us.length-mn))) f2)).trans (Same.new (o:=.lst [V.str (Str.ofString "and"),V.str (Str.ofString "or")]) f3)).trans (Same.new (o:=.tup [V.str w,V.ref D]) f4)).trans (Same.new (o:=.tup [V.ref p4,V.int ((dp:Int)+1)]) f5)
          have S9:=(((Same.new (o:=.lst (us.take (us.length-mn))) f2).trans (Same.new (o:=.lst [V.str (Str.ofString "and"),V.str (Str.ofString "or")]) f3)).trans (Same.new (o:=.tup [V.str w,V.ref D]) f4)).trans (Same.new (o:=.tup [V.ref p4,V.int ((dp:Int)+1)]) f5)
          have hl:upd (upd (upd (upd H9 p2 (.lst (us.take (us.length-mn)))) p3 (.lst [V.str (Str.ofString "and"),V.str (Str.ofString "or")])) p4 (.tup [V.str w,V.ref D])) p5 (.tup [V.ref p4,V.int ((dp:Int)+1)]) p2=some (.lst (us.take (us.length-mn))):=(((Same.new f3).trans (Same.new f4)).trans (Same.new f5)) _ _ upd_same
          have h4:upd (upd (upd (upd H9 p2 (.lst (us.take (us.length-mn)))) p3 (.lst [V.str (Str.ofString "and"),V.str (Str.ofString "or")])) p4 (.tup [V.str w,V.ref D])) p5 (.tup [V.ref p4,V.int ((dp:Int)+1)]) p4=some (.tup [V.str w,V.ref D]):=Same.new f5 _ _ upd_same
          have h5:upd (upd (upd (upd H9 p2 (.lst (us.take (us.length-mn)))) p3 (.lst [V.str (Str.ofString "and"),V.str (Str.ofString "or")])) p4 (.tup [V.str w,V.ref D])) p5 (.tup [V.ref p4,V.int ((dp:Int)+1)]) p5=some (.tup [V.ref p4,V.int ((dp+1:Nat):Int)]):=upd_same
          have hD9:=S9 _ _ h9
          generalize upd (upd (upd (upd H9 p2 (.lst (us.take (us.length-mn)))) p3 (.lst [V.str (Str.ofString "and"),V.str (Str.ofString "or")])) p4 (.tup [V.str w,V.ref D])) p5 (.tup [V.ref p4,V.int ((dp:Int)+1)])=Ha at S hl h4 h5 hD9 ⊢
          have dr:=hits.drop (us.length-mn)
          obtain ⟨tr,tk,tl⟩:=dr.trs (G':=Ha) l9 fun i y x hy hx=>TrAt.same (del_sub.trans S) _ (t9 i y x hy hx)
          have td:=dr.trsDep (d:=dp) fun x hx=>hdp _ (List.mem_map.mpr ⟨x,hx,rfl⟩)
          have nx:=nsum_cut its (us.length-mn)
          have nn:t.nums.length=nsum (its.drop (us.length-mn)):=by rw [ht4,nums_sum]
          have dl:(its.drop (us.length-mn)).length≤60:=by rw [List.length_drop];omega
          have it:It K (nmW ns) Ha (.ref p5) (t,dp+1):=⟨⟨p5,_,rfl,.inl (.inl h5),ht1 _ _ _ _ (.inl (.inl h4)) (SqL.of hD9) tr⟩,by show t.dep≤dp+1;rw [ht2];omega,by show dp+1≤18;omega,ht3 (by rw [tl];omega) tk⟩
          refine cat_end (fun pb H'=>BI K (nmW ns) sc a c m wd zs H (i+1) [some (.ref sc),some (.int m),some (.bl wd),some (.ref a),some (.ref pb),some (.int lf),some (.int no),some (.int z),some (.int y),some (.int mn),some (.int dp),some (.ref D)] H') hl (by rw [List.length_take,hits.len];omega) fun pb H' fb sb db hb=>?_
          have mv:=del_mv (p:=p) (S.trans sb) (S.free fb)
          have c2':1<mn:=by omega
          exact ⟨⟨pb,lf,no,_,its.take (us.length-mn)++[(t,dp+1)],_,_,_,_,_,rfl,hb,((hits.take (us.length-mn)).same mv).snoc (it.same db),by rw [List.length_append,List.length_take];show _+1≤_;omega,by rw [nsum_app,nsum_one];show _+t.nums.length≤_;omega,s5.free (S.free fb),mv _ _ ha,mv _ _ hc⟩,s5.trans (S.trans sb)⟩
        · rw [if_neg c3]
          exact el
      · rw [if_neg c2]
        exact el
    · rw [if_neg c1]
      exact el
  · rintro σ H5 ⟨⟨p,lf,no,us,its,v7,v8,v9,v10,v11,rfl,hp,hits,li,ni,fp,ha,hc⟩,s5⟩
    have li:its.length≤60:=by rw [List.length_map] at li;omega
    have ni:nsum its≤120:=by rw [List.length_map] at ni;omega
    refine hk _ _ (seq_step fun k hk=>?_)
    walk_at "vc"
    refine ⟨_,.inl (SqL.of hp),?_⟩
    by_cases c1:(us.length:Int)=1
    · rw [if_pos c1]
      have ul:0<us.length:=by omega
      have gu:=List.getElem?_eq_getElem ul
      have gx:=List.getElem?_eq_getElem (l:=its) (i:=0) (by rw [← hits.len];exact ul)
      have e1:its=[its[0]'(by rw [← hits.len];exact ul)]:=by
        match its,hits.len,c1 with
        | [x],_,_=>rfl
        | [],l,c=>rw [l] at c;exact absurd c (by decide)
        | _::_::_,l,c=>rw [l] at c;simp at c;omega
      generalize its[0]'(by rw [← hits.len];exact ul)=x at gx e1
      obtain ⟨⟨q0,v,eu,h1,h2⟩,xd,xt,xo⟩:=hits.it _ _ _ gu gx
      have xn:x.1.nums.length≤120:=by rw [e1,nsum_one] at ni;exact ni
      exact ⟨_,SqL.of hp,_,atI_nat (j:=0) gu,q0,eu,_,sqT_same del_sub h1,_,rfl,q x.1 v H5 s5 (TrAt.same del_sub _ h2) xo (by omega) xn⟩
    rw [if_neg c1]
    refine hk _ _ (seq_step fun k hk=>?_)
    walk_at "vc"
    refine ⟨Nat.zero_le _,fun p8 f8=>?_⟩
    have s8:=Same.new (o:=.lst []) f8
    refine rEqD_nil (n:=40) (us:=us) (by decide) (fun u hu=>?_) (SqL.of (s8 _ _ hp)) (SqL.of upd_same) ?_
    · obtain ⟨i,hi⟩:=List.getElem?_of_mem hu
      have hl:=(List.getElem?_eq_some_iff.mp hi).1
      obtain ⟨⟨q0,v,rfl,h1,h2⟩,xd,xt,xo⟩:=hits.it i u _ hi (List.getElem?_eq_getElem (by rw [← hits.len];exact hl))
      obtain ⟨d1,k1,k2,k3⟩:=TrAt.rd (nms_ok _ _) _ (TrAt.same (del_sub.trans s8) _ h2) xo
      refine ⟨_,.tup (sqT_same (del_sub.trans s8) h1) (.cons k1 (.cons (.int _) .nil)),lay_tup (lay_cons k2 (lay_cons lay_int lay_nil)),?_⟩
      rw [dep_tup,dep_cons,dep_cons,dep_int,dep_nil]
      omega
    refine ⟨_,rfl,?_⟩
    by_cases c2:us.isEmpty=true
    · rw [if_pos c2]
      exact ⟨by decide,fun p9 f9=>q .ev _ _ ((s5.trans s8).trans (Same.new f9)) ⟨p9,rfl,.inl (.inl upd_same)⟩ trivial (Nat.zero_le _) (Nat.zero_le _)⟩
    rw [if_neg c2]
    have hp:=s8 _ _ hp
    have hits:=hits.same (del_mn (p:=p) s8)
    have s5:=s5.trans s8
    generalize upd H5 p8 (.lst [])=H8 at hp hits s5 ⊢
    refine hk _ _ ?_
    walk_at "vc"
    refine ⟨by decide,fun pa fa=>⟨sc,ns,2,rfl,(s5.trans (Same.new fa)).seq hS,_,rfl,_,SqL.of upd_same,?_⟩⟩
    have sa:=Same.new (o:=.lst [V.str (Str.ofString "and"),V.str (Str.ofString "or")]) fa
    obtain ⟨w,t,hw,ht1,ht2,ht3,ht4⟩:=andor (K:=K) (N:=nmW ns) (Ts.ofL (its.map (·.1))) (z:=ns.getD 2 0%2) (by omega)
    refine ⟨_,hw,⟨_,SqL.of (sa _ _ hp)⟩,comp_fst hits (del_sub.trans sa) (SqL.of (sa _ _ hp)) (by rw [hits.len];omega) fun D ys H9 hD s9 h9 l9 t9=>⟨by decide,fun pb fb=>?_⟩⟩
    have S:=(sa.trans s9).trans (Same.new (o:=.tup [V.str w,V.ref D]) fb)
    obtain ⟨tr,tk,tl⟩:=hits.trs (G':=upd H9 pb (.tup [V.str w,V.ref D])) l9 fun i y x hy hx=>TrAt.same (del_sub.trans S) _ (t9 i y x hy hx)
    have td:=hits.trsDep (d:=18) fun x hx=>(hits.mem hx).choose_spec.top
    exact q t _ _ (s5.trans S) (ht1 _ _ _ _ (.inl (.inl upd_same)) (SqL.of (Same.new fb _ _ h9)) tr) (ht3 (by rw [tl];omega) tk) (by rw [ht2];omega) (by rw [ht4,nums_sum];exact ni)
end
def spLaw (K:PySem.W.Frag):Sp:=fun vs H Q _=>∃ (a:Addr) (ns:List Int),vs=[.ref a]∧SqL K H a (ns.map V.int)∧ns.length≤63∧∀ H',Q (.bl true) H'
def PlAt (tb:Tab)(i:Nat)(y:V)(G:Hp):Prop:=∃ (p d:Addr) (x:Nat × List (Key × V)),y=.ref p∧tb[i]?=some x∧G p=some (.tup [.int x.1,.ref d])∧G d=some (.dK x.2)
theorem PlAt.same {tb:Tab}(i:Nat)(y:V)(G G':Hp)(s:Same G G')(h:PlAt tb i y G):PlAt tb i y G':=by
  obtain ⟨p,d,x,h1,h2,h3,h4⟩:=h
  exact ⟨p,d,x,h1,h2,s _ _ h3,s _ _ h4⟩
theorem del_any {H:Hp}{p:Addr}{o:HO}:Same (del H p) (upd H p o):=fun b u e=>by
  obtain ⟨n,e⟩:=del_some e
  rw [upd_ne n]
  exact e
theorem del_to {H H':Hp}{p:Addr}(s:Same (del H p) H'):Same (del H p) (del H' p):=fun b u e=>by
  have z:=s _ _ e
  obtain ⟨n,e⟩:=del_some e
  rw [del_ne n]
  exact z
theorem del_sm {H H':Hp}{p:Addr}(s:Same H H'):Same (del H p) (del H' p):=del_to fun b u e=>s _ _ (del_some e).2
theorem inV_int (r:Int)(rs:List Int):inV (.int r) (rs.map V.int)=decide (r∈rs):=by
  unfold inV
  rw [List.any_map,Bool.eq_iff_iff,List.any_eq_true,decide_eq_true_eq]
  constructor
  · rintro ⟨x,hx,e⟩
    have:x=r:=by simpa [eqV] using e
    exact this ▸ hx
  · exact fun h=>⟨r,h,by simp [eqV]⟩
theorem flat_ints (rs:List Int):(rs.map V.int).all flatV=true:=by
  rw [List.all_eq_true]
  intro x hx
  obtain ⟨r,_,rfl⟩:=List.mem_map.mp hx
  rfl
theorem rest_eq {t:T}{tb:Tab}:(((srtI (keyI tb)).map V.int).filter fun x=>!inV x ((rowsT t tb).map V.int)).map id=(rowsT (.opp t) tb).map V.int:=by
  rw [List.map_id,List.filter_map]
  congr 1
  refine List.filter_congr fun r hr=>?_
  show (!inV (.int r) ((rowsT t tb).map V.int))=!t.hol (vAt (cont tb r))
  rw [inV_int]
  congr 1
  rw [Bool.eq_iff_iff,decide_eq_true_eq]
  exact ⟨fun h=>(List.mem_filter.mp h).2,fun h=>List.mem_filter.mpr ⟨hr,h⟩⟩
def OwAt (tb:Tab)(G0:Hp)(i:Nat)(y:V)(G:Hp):Prop:=∃ (p d:Addr) (x:Nat × List (Key × V)),y=.ref p∧tb[i]?=some x∧G p=some (.tup [.int x.1,.ref d])∧G0 d=some (.dK x.2)
theorem OwAt.same {tb:Tab}{G0:Hp}(i:Nat)(y:V)(G G':Hp)(s:Same G G')(h:OwAt tb G0 i y G):OwAt tb G0 i y G':=by
  obtain ⟨p,d,x,h1,h2,h3,h4⟩:=h
  exact ⟨p,d,x,h1,h2,s _ _ h3,h4⟩
theorem rows_drop {R:Key × V→Nat × List (Key × V)→Prop} {r:Int} (hR:∀ kv x,R kv x→(kv.1=Sum.inl r↔(x.1:Int)=r)):∀ {kvs:List (Key × V)} {tb:Tab},kvs.length=tb.length→(∀ (i:Nat) kv x,kvs[i]?=some kv→tb[i]?=some x→R kv x)→(dropK kvs (.inl r)).length=(tb.filter fun x=>decide ((x.1:Int)≠r)).length∧∀ (i:Nat) kv x,(dropK kvs (.inl r))[i]?=some kv→(tb.filter fun x=>decide ((x.1:Int)≠r))[i]?=some x→R kv x
  | [],[],_,_=>⟨rfl,fun i kv x e=>by cases e⟩
  | kv::kvs,x::tb,hl,h=>by
    have ih:=rows_drop hR (kvs:=kvs) (tb:=tb) (Nat.succ.inj hl) fun i a b e f=>h (i+1) a b e f
    have h0:=hR _ _ (h 0 kv x rfl rfl)
    unfold dropK at ih ⊢
    by_cases c:(x.1:Int)=r
    · rw [List.filter_cons_of_neg (by simpa using h0.mpr c),List.filter_cons_of_neg (by simpa using c)]
      exact ih
    · rw [List.filter_cons_of_pos (by simpa using fun z=>c (h0.mp z)),List.filter_cons_of_pos (by simpa using c)]
      refine ⟨congrArg Nat.succ ih.1,fun i a b e f=>?_⟩
      cases i with
      | zero =>
        cases e
        cases f
        exact h 0 _ _ rfl rfl
      | succ i=>exact ih.2 i a b e f
theorem TbAt.drop {N:List Str}{G:Hp}{kvs:List (Key × V)}{tb:Tab}(h:TbAt N G kvs tb)(r:Int):TbAt N G (dropK kvs (.inl r)) (tb.filter fun x=>decide ((x.1:Int)≠r)):=by
  have z:=rows_drop (R:=fun kv x=>∃ d,kv=(Sum.inl (x.1:Int),V.ref d)∧G d=some (.dK x.2)∧VG N 3 x.2) (r:=r) (fun kv x hx=>by
    obtain ⟨d,rfl,_⟩:=hx
    exact ⟨fun e=>Sum.inl.inj e,fun e=>by rw [e]⟩) h.len h.row
  exact ⟨z.1,z.2,(List.filter_sublist.map _).nodup h.nd⟩
theorem srtI_filter (q:Int→Bool)(xs:List Int):srtI (xs.filter q)=(srtI xs).filter q:=by
  have h:=List.pairwise_mergeSort (le:=fun a b:Int=>decide (a≤b)) (fun a b c h1 h2=>by rw [decide_eq_true_eq] at *;omega) (fun a b=>by rw [Bool.or_eq_true,decide_eq_true_eq,decide_eq_true_eq];omega) xs
  exact (srtI_eq ((List.mergeSort_perm xs _).filter q) ((h.imp fun h=>by rw [decide_eq_true_eq] at h;exact h).filter q)).symm
theorem cont_drop {tb:Tab}{r y:Int}(h:y≠r):cont (tb.filter fun x=>decide ((x.1:Int)≠r)) y=cont tb y:=by
  unfold cont
  rw [List.find?_filter]
  congr 3
  funext x
  by_cases c:(x.1:Int)=y
  · simp [c,h]
  · simp [c]
theorem rowsT_drop {t:T}{tb:Tab}{r:Int}:rowsT t (tb.filter fun x=>decide ((x.1:Int)≠r))=(rowsT t tb).filter fun y=>decide (y≠r):=by
  unfold rowsT
  have e:keyI (tb.filter fun x=>decide ((x.1:Int)≠r))=(keyI tb).filter fun y=>decide (y≠r):=by
    unfold keyI
    rw [List.filter_map]
    rfl
  rw [e,srtI_filter,List.filter_filter,List.filter_filter]
  refine List.filter_congr fun y _=>?_
  by_cases c:y=r
  · simp [c]
  · rw [cont_drop c]
    simp [c]
theorem ne_map {rs:List Int}{g:Int}:((rs.map V.int).filter fun x=>decide (x≠V.int g)).map id=(rs.filter fun y=>decide (y≠g)).map V.int:=by
  rw [List.map_id,List.filter_map]
  congr 1
  refine List.filter_congr fun r _=>?_
  show decide (V.int r≠V.int g)=decide (r≠g)
  exact decide_eq_decide.mpr ⟨fun z y=>z (by rw [y]),fun z y=>z (by injection y)⟩
structure LwN (sc v a qu p D l:V)(H:Hp)(σ:L2.St)(H':Hp):Prop where
  ex:∃ v7,σ=[some sc,some v,some a,some qu,some p,some D,some l,v7,none,none]
  sm:Same H H'
section
variable {P:Program}{w:World}{K:PySem.W.Frag}{mg:Str→Option Value}{base:Heap}{C:Kd→Addr}
theorem ok_law (B:Blt mg)(h_l_cell_at:FnAt P w K mg base "_law_cell_at" ["_law_script","_law_k"] 1 (spCell K))(h_l_built:FnAt P w K mg base "_law_built" ["_law_script","_law_most"] 3 (spBuilt K))(h_l_names:FnAt P w K mg base "_law_names" ["_law_script","_law_most"] 2 (spNames K))(h_l_made:∀ N,FnAt P w K mg base "_law_made" ["_law_tree"] 23 (spMade K C N 20))(h_l_numbers_in:FnAt P w K mg base "_law_numbers_in" ["_law_tree"] 21 (spNums K 20))(h_l_table:FnAt P w K mg base "_law_table" ["_law_script","_law_names_here","_law_numbers"] 2 (spTable K))(h_l_holds:∀ N,(∀ x∈N,PyData.strOk x=true)→FnAt P w K mg base "_law_holds" ["_law_tree","_law_values"] 21 (spLHolds K N 20))
    (h_l_counted:∀ N,(∀ x∈N,PyData.strOk x=true)→FnAt P w K mg base "_law_counted" ["_law_question","_law_tree"] 24 (spCounted K C N)) (h_l_summed:∀ N,FnAt P w K mg base "_law_summed" ["_law_name","_law_question","_law_table_here","_law_rows"] 34 (spSummed K C N)) (h_l_flat:FnAt P w K mg base "_law_flat" ["_law_found","_law_due"] 2 spFlat) (h_plain_rows:∀ N,FnAt P w K mg base "plain_rows" ["question","table"] 32 (spPR C N)) (h_Opposite:MakeAt P w K mg base "Opposite" (C .op) ["self","one"] 1 (spIOp C))
    {fa:Addr} {fd:FuncData} (FL:Fun K "law" "law" s_law fa fd):FnOk P w K mg base CX0 36 fa fd ["_law_script"] (spLaw K):=by
  refine FL.ok sc_law (fun vs H Q E h=>?_) (fun cdv A outer s H vs Q E hr h=>?_)
  · obtain ⟨a,ns,rfl,_⟩:=h
    rfl
  obtain ⟨sc,ns,rfl,hS,h63,q⟩:=h
  have h_l_made:=h_l_made (nmW ns)
  have h_l_holds:=h_l_holds (nmW ns) (nms_ok _ _)
  have h_l_counted:=h_l_counted (nmW ns) (nms_ok _ _)
  have h_l_summed:=h_l_summed (nmW ns)
  have h_plain_rows:=h_plain_rows (nmW ns)
  refine ⟨_,(pss_cons (ps_set (i:=1) sc_law.nd rfl (by walk_at "l") (pe_callF h_l_built (hr.mono (by decide)) rfl (pa_cons (pv 0) (pa_cons pe_int pa_nil))))
      (pss_cons (ps_set (i:=2) sc_law.nd rfl (by walk_at "l") (pe_callF h_l_names (hr.mono (by decide)) rfl (pa_cons (pv 0) (pa_cons (pe_ix (ix_listK K) (pe_lst (pa_cons pe_int (pa_cons pe_int pa_nil))) (pe_callTy call_int1 rfl B.int boot_int (pa_cons (pe_cmpR op_eq (pe_op op_mod (pe_callF h_l_cell_at (hr.mono (by decide)) rfl (pa_cons (pv 0) (pa_cons pe_int pa_nil))) pe_int) pe_int (nomark _)) pa_nil)) (fun _ _=>rfl)) pa_nil))))
      (pss_cons (ps_set (i:=3) sc_law.nd rfl (by walk_at "l") (pe_callF h_l_made (hr.mono (by decide)) rfl (pa_cons (pv 1) pa_nil)))
      (pss_cons (ps_if (pt_not (pt_val (pe_callF h_l_counted (hr.mono (by decide)) rfl (pa_cons (pv 3) (pa_cons (pv 1) pa_nil))))) (pss_one (ps_ret pe_bl)) pss_nil)
      (pss_cons (ps_set (i:=4) sc_law.nd rfl (by walk_at "l") (pe_callF h_l_table (hr.mono (by decide)) rfl (pa_cons (pv 0) (pa_cons (pv 2) (pa_cons (pe_callF h_l_numbers_in (hr.mono (by decide)) rfl (pa_cons (pv 1) pa_nil)) pa_nil)))))
      (pss_cons (ps_thaw (ps_setcomp (i:=5) ["_law_row"] [4] sc_law.nd rfl (by walk_at "l") rfl (pi_dict (pv 4)) (fun _ _ _ _ _=>pg_name (i:=0) (by show List.Nodup (["_law_row","_law_table_here"]:List Str);decide +kernel) rfl (Or.inl rfl)) (fun _ _ _ _ _=>pts_nil) (fun _ _ _ _ _=>(pe_tup (pa_cons (pv 0) (pa_cons (pe_callTy call_dictOf rfl B.dct L2.boot_dict (pa_cons (pe_dget (hu1 hr) (pv 1) (pv 0) (fun _ _=>rfl)) pa_nil)) pa_nil)))) ⟨⟨_,rfl,rfl,.inl rfl⟩,trivial⟩ gOwn_name))
      (pss_cons (ps_set (i:=6) sc_law.nd rfl (by walk_at "l") (pe_comp ["_law_row"] [1,4] rfl (pi_listK K (pe_callB call_sortedD rfl B.sorted L2.boot_sorted (pa_cons (pv 4) pa_nil))) (fun _ _ _ _ _=>pg_name (i:=0) (by show List.Nodup (["_law_row","_law_tree","_law_table_here"]:List Str);decide +kernel) rfl (Or.inl rfl)) (fun _ _ _ _ _=>pts_one (pt_val (pe_callF h_l_holds (hr.mono (by decide)) rfl (pa_cons (pv 1) (pa_cons (pe_dget (hu1 hr) (pv 2) (pv 0) (fun _ _=>rfl)) pa_nil))))) (fun _ _ _ _ _=>(pv 0)) ⟨⟨_,rfl,rfl,.inl rfl⟩,⟨⟨_,rfl,rfl,.inl rfl⟩,trivial⟩⟩ gOwn_name))
      (pss_cons (ps_for PassesOwn.never rfl (pi_listK K (pv 2)) (pg_name (i:=7) sc_law.nd rfl (by walk_at "l")) (pss_one (ps_if (pt_not (pt_val (pe_callF h_l_summed (hr.mono (by decide)) rfl (pa_cons (pv 7) (pa_cons (pv 3) (pa_cons (pv 4) (pa_cons (pv 6) pa_nil))))))) (pss_one (ps_ret pe_bl)) pss_nil)))
      (pss_cons (ps_setcomp (i:=8) ["_law_row"] [6] sc_law.nd rfl (by walk_at "l") rfl (pi_listK K (pe_callB call_sortedD rfl B.sorted L2.boot_sorted (pa_cons (pv 4) pa_nil))) (fun _ _ _ _ _=>pg_name (i:=0) (by show List.Nodup (["_law_row","_law_rows"]:List Str);decide +kernel) rfl (Or.inl rfl)) (fun _ _ _ _ _=>pts_one (pt_cmpR (op_notInK K) (pv 0) (pv 1) (by with_unfolding_all rfl))) (fun _ _ _ _ _=>(pv 0)) ⟨⟨_,rfl,rfl,.inl rfl⟩,trivial⟩ gOwn_name)
      (pss_cons (ps_if (PW.pt (pw_or (pt_not (pt_val (pe_callF h_l_flat (hr.mono (by decide)) rfl (pa_cons (pe_callF h_plain_rows (hr.mono (by decide)) rfl (pa_cons (pv 3) (pa_cons (pv 4) pa_nil))) (pa_cons (pv 6) pa_nil))))) (pw_or1 (pt_not (pt_val (pe_callF h_l_flat (hr.mono (by decide)) rfl (pa_cons (pe_callF h_plain_rows (hr.mono (by decide)) rfl (pa_cons (pe_makeF h_Opposite (hr.mono (by decide)) rfl (pa_cons (pv 3) pa_nil)) (pa_cons (pv 4) pa_nil))) (pa_cons (pv 8) pa_nil)))))))) (pss_one (ps_ret pe_bl)) pss_nil)
      (pss_cons (ps_if (pt_cmpR (op_neT K (hu64 hr)) (pe_thaw (pe_comp ["_law_row"] [4] rfl (pi_dict (pv 4)) (fun _ _ _ _ _=>pg_name (i:=0) (by show List.Nodup (["_law_row","_law_table_here"]:List Str);decide +kernel) rfl (Or.inl rfl)) (fun _ _ _ _ _=>pts_nil) (fun _ _ _ _ _=>(pe_tup (pa_cons (pv 0) (pa_cons (pe_dget (hu1 hr) (pv 1) (pv 0) (fun _ _=>rfl)) pa_nil)))) ⟨⟨_,rfl,rfl,.inl rfl⟩,trivial⟩ gOwn_name)) (pv 5) (nomark _)) (pss_one (ps_ret pe_bl)) pss_nil)
      (pss_cons (ps_if (pt_cmpR (op_neT K (hu64 hr)) (pv 5) (pe_lst pa_nil) (nomark _)) (pss_cons (ps_set (i:=9) sc_law.nd rfl (by walk_at "l") (pe_ix (ix_tupK K) (pe_ix (ix_listK K) (pv 5) (pe_op op_mod (pe_callF h_l_cell_at (hr.mono (by decide)) rfl (pa_cons (pv 0) (pa_cons pe_int pa_nil))) (pe_callB (call_lenK K) rfl B.len PySem.boot_len (pa_cons (pv 5) pa_nil))) (fun _ _=>rfl)) pe_int (fun _ _=>rfl)))
      (pss_cons (ps_expr (pe_dpop1 (pv 4) (pv 9) ⟨rfl,rfl,rfl,rfl⟩))
      (pss_one (ps_set (i:=6) sc_law.nd rfl (by walk_at "l") (pe_comp ["_law_row"] [9] rfl (pi_listK K (pv 6)) (fun _ _ _ _ _=>pg_name (i:=0) (by show List.Nodup (["_law_row","_law_gone"]:List Str);decide +kernel) rfl (Or.inl rfl)) (fun _ _ _ _ _=>pts_one (pt_cmpR op_ne (pv 0) (pv 1) (nomark _))) (fun _ _ _ _ _=>(pv 0)) ⟨⟨_,rfl,rfl,.inl rfl⟩,trivial⟩ gOwn_name))))) pss_nil)
      (pss_one (ps_ret (pe_callF h_l_flat (hr.mono (by decide)) rfl (pa_cons (pe_callF h_plain_rows (hr.mono (by decide)) rfl (pa_cons (pv 3) (pa_cons (pv 4) pa_nil))) (pa_cons (pv 6) pa_nil))))))))))))))))),?_⟩
  refine seq_step fun k hk=>?_
  walk_at "vc"
  refine ⟨sc,ns,16,rfl,hS,fun t v H1 s1 t1 o1 d1 n1=>hk _ _ (seq_step fun k hk=>?_)⟩
  have hS1:=s1.seq hS
  walk_at "vc"
  refine ⟨by decide,fun p0 h0=>⟨sc,ns,1,rfl,(Same.new h0).seq hS1,_,rfl,_,SqL.of upd_same,.int (mW ns),?_,sc,ns,mW ns,rfl,(Same.new h0).seq hS1,?_,?_,fun a H2 s2 ha=>hk _ _ (seq_step fun k hk=>?_)⟩⟩
  · unfold mW
    split
    · exact (rfl:atI [V.int 3,V.int 8] 1=some (.int 8))
    · exact (rfl:atI [V.int 3,V.int 8] 0=some (.int 3))
  · unfold mW;split<;>decide
  · unfold mW;split<;>decide
  have s2:=(Same.new (o:=.lst [V.int 3,V.int 8]) h0).trans s2
  have t2:=TrAt.same s2 _ t1
  have hS2:=s2.seq hS1
  have ha:H2 a=some (.lst ((nmW ns).map V.str)):=ha
  clear s1 t1 hS1 h0 s2
  walk_at "vc"
  refine ⟨t,v,rfl,t2,o1,by omega,fun qu H3 s3 q3=>hk _ _ (seq_step fun k hk=>?_)⟩
  have q3:=QAt.same New.sub _ q3
  have t3:=TrAt.same s3 _ t2
  have hS3:=s3.seq hS2
  have ha3:=s3 _ _ ha
  clear t2 hS2 ha s3
  walk_at "vc"
  refine ⟨t,qu,v,rfl,q3,t3,o1,by omega,by omega,fun H4 s4=>⟨_,rfl,?_⟩⟩
  rw [if_neg (by decide)]
  refine hk _ _ (seq_step fun k hk=>?_)
  have q4:=QAt.same s4 _ q3
  have t4:=TrAt.same s4 _ t3
  have hS4:=s4.seq hS3
  have ha4:=s4 _ _ ha3
  clear t3 hS3 ha3 s4 q3
  walk_at "vc"
  refine ⟨t,v,rfl,t4,by omega,by omega,fun nu H5 s5 h5=>⟨sc,a,nu,nmW ns,ns,t.nums,rfl,s5.seq hS4,SqL.of (s5 _ _ ha4),nms_len _ _,SqL.of h5,by omega,fun p kvs tb H6 s6 fp h6 tbA lt=>hk _ _ (seq_step fun k hk=>?_)⟩⟩
  have q5:=QAt.same s5 _ q4
  have t5:=TrAt.same s5 _ t4
  have hS5:=s5.seq hS4
  have ha5:=s5 _ _ ha4
  clear q4 t4 hS4 ha4 h5 s5
  have hN:(nmW ns).length=3:=nms_len _ _
  walk_at "vc"
  refine ⟨p,kvs,h6,kvs,h6,fun o=>compAD (PlAt tb) PlAt.same upd_same (by rw [tbA.len];omega) (fun i kv H7 R hk s7 q7=>?_) (fun D ys H7 fD s7 h7 l7 r7=>?_)⟩
  · have S:Same (del H6 p) H7:=del_any.trans s7
    have il:=(List.getElem?_eq_some_iff.mp hk).1
    obtain ⟨x,hx⟩:∃ x,tb[i]?=some x:=⟨_,List.getElem?_eq_getElem (by rw [← tbA.len];exact il)⟩
    obtain ⟨d,rfl,g1,g2⟩:=tbA.row i kv x hk hx
    obtain ⟨d',e1,g3,_⟩:=tbA.get (List.mem_of_getElem? hx)
    walk_at "vc"
    refine ⟨_,.inl ⟨kvs,.inl (x.1:Int),.inr ⟨o,s7 _ _ upd_same⟩,rfl,e1.symm⟩,d',rfl,x.2,S _ _ g3,fun l fl=>⟨by decide,fun p1 f1=>q7 _ _ ((Same.new fl).trans (Same.new f1)) ?_⟩⟩
    refine ⟨p1,l,x,rfl,hx,New.of ((Same.new fl).free f1) upd_same,New.of fl (Same.new f1 _ _ upd_same)⟩
  refine ⟨o,s7 _ _ upd_same,hk _ _ (seq_step fun k hk=>?_)⟩
  have nDp:D≠p:=fun z=>by rw [z,upd_same] at fD;cases fD
  have s8:Same H6 (upd H7 p (.dK kvs)):=fun b u e=>by
    by_cases z:b=p
    · rw [z] at e ⊢
      rw [upd_same]
      exact h6.symm.trans e
    · rw [upd_ne z]
      exact s7 _ _ (by rw [upd_ne z];exact e)
  have h8:upd H7 p (.dK kvs) p=some (.dK kvs):=upd_same
  have D8:upd H7 p (.dK kvs) D=some (.lst ys):=by rw [upd_ne nDp];exact h7
  have r8:∀ j y,ys[j]?=some y→PlAt tb j y (del (upd H7 p (.dK kvs)) p):=fun j y hj=>by
    refine PlAt.same j y _ _ (fun b u e=>?_) (r7 j y hj)
    obtain ⟨_,e⟩:=del_some e
    obtain ⟨e1,e2⟩:=New.some e
    have nb:b≠p:=fun z=>by rw [z,upd_same] at e1;cases e1
    rw [del_ne nb,upd_ne nb]
    exact e2
  have tb8:=tbA.same (del_sm (p:=p) s8)
  have G8:=s6.trans s8
  generalize upd H7 p (.dK kvs)=H8 at s8 h8 D8 r8 tb8 G8 ⊢
  clear r7 h7 s7 fD s8 tbA h6 s6 H7 H6
  walk_at "vc"
  refine ⟨kvs,h8,keyI tb,tb8.keys,fun l ns' fl pm so=>?_⟩
  have e:=srtI_eq pm so
  subst e
  have s9:=Same.new (o:=.lst ((srtI (keyI tb)).map V.int)) fl
  have kl:(keyI tb).length=tb.length:=by unfold keyI;rw [List.length_map]
  have rl:=rowsT_len (t:=t) (tb:=tb)
  refine ⟨⟨_,SqL.of upd_same⟩,compT (xs:=(srtI (keyI tb)).map V.int) (fun i=>t.hol (vAt (cont tb ((srtI (keyI tb)).getD i 0)))) (SqL.of upd_same) (by rw [List.length_map,srtI_len];omega) (fun i x H10 R hx s10 q2=>?_) (fun x H10 R q2=>?_) (fun D2 H10 s10 h10=>?_)⟩
  · rw [List.getElem?_map] at hx
    cases er:(srtI (keyI tb))[i]? with
    | none=>rw [er] at hx;cases hx
    | some r =>
      rw [er] at hx
      cases hx
      have gr:(srtI (keyI tb)).getD i 0=r:=by rw [List.getD_eq_getElem?_getD,er];rfl
      rw [gr] at q2
      obtain ⟨d,g1,g2,g3⟩:=tb8.gi (srtI_mem.mp (List.mem_of_getElem? er))
      have S:=s9.trans s10
      walk_at "vc"
      exact ⟨_,.inl ⟨kvs,.inl r,.inl (S _ _ h8),rfl,g1.symm⟩,t,_,d,_,vAt (cont tb r),rfl,TrAt.same (G8.trans S) _ t5,o1,by omega,S _ _ (del_some g2).2,g3.ok hN,fun H3 s3=>⟨_,rfl,q2 H3 s3⟩⟩
  · walk_at "vc"
    exact q2
  have e10:H10 D2=some (.lst ((rowsT t tb).map V.int)):=by
    rw [h10,List.length_map]
    have:=range_filter_map (fun r=>t.hol (vAt (cont tb r))) V.int (srtI (keyI tb)) (fun i=>t.hol (vAt (cont tb ((srtI (keyI tb)).getD i 0)))) (fun i=>((srtI (keyI tb)).map V.int).getD i .non) fun i x hx=>by
      rw [List.getD_eq_getElem?_getD,List.getD_eq_getElem?_getD,List.getElem?_map,hx]
      exact ⟨rfl,rfl⟩
    rw [this]
    rfl
  have S10:=s9.trans s10
  have p10:=S10 _ _ h8
  have D10:=S10 _ _ D8
  have tb10:=tb8.same (del_sm (p:=p) S10)
  have r10:=fun j y hj=>PlAt.same j y _ _ (del_sm (p:=p) S10) (r8 j y hj)
  have G10:=G8.trans S10
  refine hk _ _ (seq_step fun k hk=>?_)
  clear h10 s10 s9 S10 h8 D8 tb8 r8 G8 fl pm so
  walk_at "vc"
  refine ⟨⟨_,SqL.of (G10 _ _ ha5)⟩,loopL (K:=K) (xs:=(nmW ns).map V.str) (fun _=>LwN (.ref sc) v (.ref a) qu (.ref p) (.ref D) (.ref D2) H10) ⟨⟨_,rfl⟩,Same.refl _⟩ (fun i σ H' _ h=>SqL.of (h.sm _ _ (G10 _ _ ha5))) ?_ ?_⟩
  · rintro i y σ H11 hy ⟨⟨v7,rfl⟩,s11⟩
    rw [List.getElem?_map] at hy
    cases er:(nmW ns)[i]? with
    | none=>rw [er] at hy;cases hy
    | some nm =>
      rw [er] at hy
      cases hy
      rw [gName_ap]
      walk_at "vc"
      refine ⟨t,nm,qu,p,D2,kvs,tb,rfl,List.mem_of_getElem? er,QAt.same (G10.trans s11) _ q5,o1,by omega,s11 _ _ p10,(tb10.same del_sub).same s11,lt,hN,s11 _ _ e10,fun H12 s12=>⟨_,rfl,?_⟩⟩
      rw [if_neg (by decide)]
      exact ⟨⟨_,rfl⟩,s11.trans s12⟩
  rintro σ H11 ⟨⟨v7,rfl⟩,s11⟩
  refine hk _ _ (seq_step fun k hk=>?_)
  have e11:=s11 _ _ e10
  have p11:=s11 _ _ p10
  have D11:=s11 _ _ D10
  have tb11:=tb10.same (del_sm (p:=p) s11)
  have r11:=fun j y hj=>PlAt.same j y _ _ (del_sm (p:=p) s11) (r10 j y hj)
  have G11:=G10.trans s11
  clear e10 p10 D10 tb10 r10 G10 s11 H10
  walk_at "vc"
  refine ⟨kvs,p11,keyI tb,tb11.keys,fun l ns' fl pm so=>?_⟩
  have e:=srtI_eq pm so
  subst e
  have s12:=Same.new (o:=.lst ((srtI (keyI tb)).map V.int)) fl
  have e12:=s12 _ _ e11
  refine ⟨⟨_,SqL.of upd_same⟩,compL (fun x=>!inV x ((rowsT t tb).map V.int)) id (SqL.of upd_same) (by rw [List.length_map,srtI_len];omega) (fun x H13 R hx s13 h=>?_) (fun x H13 R hx _ s13 h=>?_) (fun D3 f3=>?_)⟩
  · obtain ⟨r,hr',rfl⟩:=List.mem_map.mp hx
    walk_at "vc"
    exact ⟨_,.inl (SqL.of (s13 _ _ e12)),rfl,flat_ints _,h⟩
  · walk_at "vc"
    exact h
  rw [rest_eq]
  have S13:=s12.trans (Same.new (o:=.lst ((rowsT (.opp t) tb).map V.int)) f3)
  have e13:=S13 _ _ e11
  have p13:=S13 _ _ p11
  have D13:=S13 _ _ D11
  have tb13:=tb11.same (del_sm (p:=p) S13)
  have r13:=fun j y hj=>PlAt.same j y _ _ (del_sm (p:=p) S13) (r11 j y hj)
  have G13:=G11.trans S13
  have h13:upd (upd H11 l (.lst ((srtI (keyI tb)).map V.int))) D3 (.lst ((rowsT (.opp t) tb).map V.int)) D3=some (.lst ((rowsT (.opp t) tb).map V.int)):=upd_same
  generalize upd (upd H11 l (.lst ((srtI (keyI tb)).map V.int))) D3 (.lst ((rowsT (.opp t) tb).map V.int))=H13 at S13 e13 p13 D13 tb13 r13 G13 h13 ⊢
  refine hk _ _ (seq_step fun k hk=>?_)
  clear e11 e12 p11 D11 tb11 r11 G11 s12 S13 fl pm so f3 H11
  walk_at "vc"
  refine ⟨t,qu,p,kvs,tb,rfl,QAt.same G13 _ q5,o1,by omega,p13,tb13.same del_sub,lt,hN,fun l1 H14 s14 h14=>⟨l1,D2,_,rfl,h14,s14 _ _ e13,by omega,fun H15 s15=>⟨_,rfl,?_⟩⟩⟩
  rw [if_neg (by decide)]
  intro x dx fx fdx ndx
  have S15:=s14.trans s15
  refine ⟨x,dx,qu,rfl,upd_same,fun H16 off h16=>⟨rfl,?_⟩⟩
  have s16:Same H15 H16:=fun b u e=>by
    have n1:b≠x:=ne_of_none e fx
    have n2:b≠dx:=ne_of_none e fdx
    rw [off b n1,upd_ne n1,upd_ne n2]
    exact e
  have S16:=S15.trans s16
  have qo:QAt C H16 (.opp t) (.ref x):=by
    unfold QAt
    exact ⟨x,dx,qu,rfl,h16,QAt.same (G13.trans S16) _ q5⟩
  have od:(T.opp t).dep<30:=by
    show t.dep+1<30
    omega
  refine ⟨.opp t,.ref x,p,kvs,tb,rfl,qo,o1,od,S16 _ _ p13,(tb13.same del_sub).same S16,lt,hN,fun l2 H17 s17 h17=>⟨l2,D3,_,rfl,h17,s17 _ _ (S16 _ _ h13),by have:=rowsT_len (t:=.opp t) (tb:=tb);omega,fun H18 s18=>⟨_,rfl,?_⟩⟩⟩
  rw [if_neg (by decide)]
  have S18:=S16.trans (s17.trans s18)
  have e18:=S18 _ _ e13
  have p18:=S18 _ _ p13
  have D18:=S18 _ _ D13
  have tb18:=tb13.same (del_sm (p:=p) S18)
  have r18:=fun j y hj=>PlAt.same j y _ _ (del_sm (p:=p) S18) (r13 j y hj)
  have G18:=G13.trans S18
  refine hk _ _ (seq_step fun k hk=>?_)
  clear e13 p13 D13 tb13 r13 G13 S18 s18 s17 h17 S16 qo s16 h16 off ndx fdx fx S15 s15 h14 s14 h13
  walk_at "vc"
  refine ⟨p,kvs,p18,kvs,p18,fun o=>compAD (OwAt tb (del H18 p)) OwAt.same upd_same (by rw [tb18.len];omega) (fun i kv H19 R hk s19 q19=>?_) (fun D4 zs H19 f4 s19 h19 l19 r19=>?_)⟩
  · have il:=(List.getElem?_eq_some_iff.mp hk).1
    obtain ⟨x,hx⟩:∃ x,tb[i]?=some x:=⟨_,List.getElem?_eq_getElem (by rw [← tb18.len];exact il)⟩
    obtain ⟨d,rfl,g1,g2⟩:=tb18.row i kv x hk hx
    obtain ⟨d',e1,g3,_⟩:=tb18.get (List.mem_of_getElem? hx)
    walk_at "vc"
    exact ⟨_,.inl ⟨kvs,.inl (x.1:Int),.inr ⟨o,s19 _ _ upd_same⟩,rfl,e1.symm⟩,by decide,fun p1 f1=>q19 _ _ (Same.new f1) ⟨p1,d',x,rfl,hx,New.of f1 upd_same,g3⟩⟩
  have nDp:D4≠p:=fun z=>by rw [z,upd_same] at f4;cases f4
  have s20:Same H18 (upd H19 p (.dK kvs)):=fun b u e=>by
    by_cases z:b=p
    · rw [z] at e ⊢
      rw [upd_same]
      exact p18.symm.trans e
    · rw [upd_ne z]
      exact s19 _ _ (by rw [upd_ne z];exact e)
  have s20':Same (New (upd H18 p (.frz o (.dK kvs))) H19) (upd H19 p (.dK kvs)):=fun b u e=>by
    obtain ⟨e1,e2⟩:=New.some e
    rw [upd_ne fun z=>by rw [z,upd_same] at e1;cases e1]
    exact e2
  have D20:upd H19 p (.dK kvs) D4=some (.lst zs):=by rw [upd_ne nDp];exact h19
  refine ⟨o,s19 _ _ upd_same,?_⟩
  generalize upd H19 p (.dK kvs)=H20 at s20 s20' D20 ⊢
  have l1:zs.length=ys.length:=by rw [l19,l7]
  have tw:Twns K H20 8 zs ys:=Twns.of l1 fun i y1 y2 e1 e2=>by
    obtain ⟨p1,d1,x1,rfl,i1,g1,g2⟩:=r19 i y1 e1
    obtain ⟨p2,d2,x2,rfl,i2,g3,g4⟩:=r18 i y2 e2
    rw [i1] at i2
    cases i2
    obtain ⟨_,_,_,vg⟩:=tb18.get (List.mem_of_getElem? i1)
    exact .tup (.inl (.inl (s20' _ _ (del_sub _ _ g1)))) (.inl (.inl (s20 _ _ (del_sub _ _ g3)))) (.cons (.int _) (.cons (.dic (s20 _ _ (del_sub _ _ g2)) (s20 _ _ (del_sub _ _ g4)) vg.nd vg.isI) .nil))
  refine ⟨_,rfl,_,SqL.of D20,_,SqL.of (s20 _ _ D18),.inl ⟨tw,?_⟩⟩
  have e20:=s20 _ _ e18
  have p20:=s20 _ _ p18
  have D20':=s20 _ _ D18
  have tb20:=tb18.same (del_sm (p:=p) s20)
  have r20:=fun j y hj=>PlAt.same j y _ _ (del_sm (p:=p) s20) (r18 j y hj)
  have G20:=G18.trans s20
  refine hk _ _ (seq_step fun k hk=>?_)
  clear e18 p18 D18 tb18 r18 G18 s20 s20' D20 tw l1 r19 l19 h19 s19 f4 nDp
  walk_at "vc"
  have fin:∀ (kvs':List (Key × V)) (tb':Tab) (D':Addr) (H21:Hp) (v9:Option V),Same H5 H21→H21 p=some (.dK kvs')→TbAt (nmW ns) H21 kvs' tb'→tb'.length≤20→H21 D'=some (.lst ((rowsT t tb').map V.int))→k [some (.ref sc),some v,some (.ref a),some qu,some (.ref p),some (.ref D),some (.ref D'),v7,some (.ref D3),v9] H21:=fun kvs' tb' D' H21 v9 s21 p21 tb21 l21 e21=>by
    refine hk _ _ ?_
    walk_at "vc"
    exact ⟨t,qu,p,kvs',tb',rfl,QAt.same s21 _ q5,o1,by omega,p21,tb21,l21,hN,fun l1 H22 s22 h22=>⟨l1,D',_,rfl,h22,s22 _ _ e21,by have:=rowsT_len (t:=t) (tb:=tb');omega,fun H23 s23=>q _⟩⟩
  refine ⟨Nat.zero_le _,fun p0 f0=>?_⟩
  have s21:=Same.new (o:=.lst []) f0
  have h21:upd H20 p0 (.lst []) p0=some (.lst []):=upd_same
  generalize upd H20 p0 (.lst [])=H21 at s21 h21 ⊢
  have e21:=s21 _ _ e20
  have p21:=s21 _ _ p20
  have D21:=s21 _ _ D20'
  have tb21:=tb20.same (del_sm (p:=p) s21)
  have r21:=fun j y hj=>PlAt.same j y _ _ (del_sm (p:=p) s21) (r20 j y hj)
  have G21:=G20.trans s21
  refine ⟨ys,SqL.of D21,[],SqL.of h21,?_⟩
  by_cases c:ys=[]
  · subst c
    exact .inl ⟨.nil,fin kvs tb D2 H21 _ G21 p21 (tb21.same del_sub) lt e21⟩
  refine .inr ⟨fun z=>c (List.length_eq_zero_iff.mp z),sc,ns,0,rfl,G21.seq hS5,?_⟩
  have l0:0<ys.length:=List.length_pos_iff.mpr c
  generalize ns.getD 0 0=z
  have z0:=Int.emod_nonneg z (b:=(ys.length:Int)) (by omega)
  have z1:=Int.emod_lt_of_pos z (b:=(ys.length:Int)) (by omega)
  obtain ⟨m,hm⟩:=Int.eq_ofNat_of_zero_le z0
  rw [hm] at z1
  obtain ⟨y,hy⟩:∃ y,ys[m]?=some y:=⟨_,List.getElem?_eq_getElem (by omega)⟩
  obtain ⟨p1,d1,x1,rfl,i1,g1,g2⟩:=r21 m y hy
  obtain ⟨d2,v1,_,_⟩:=tb21.get (List.mem_of_getElem? i1)
  have n2:D2≠p:=fun z=>by rw [z,p21] at e21;cases e21
  have e22:upd H21 p (.dK (dropK kvs (.inl (x1.1:Int)))) D2=some (.lst ((rowsT t tb).map V.int)):=by rw [upd_ne n2];exact e21
  refine ⟨ys,.inl (SqL.of D21),z,rfl,by omega,ys,SqL.of D21,.ref p1,by rw [hm];exact atI_nat hy,p1,rfl,_,.inl (.inl (del_sub _ _ g1)),_,rfl,.inl ⟨kvs,.inl p21⟩,kvs,p21,.inl (x1.1:Int),rfl,_,v1,⟨_,SqL.of e22⟩,compL (fun x=>decide (x≠V.int (x1.1:Int))) id (SqL.of e22) (by rw [List.length_map];omega) (fun x H22 R hx s22 h=>?_) (fun x H22 R hx _ s22 h=>?_) (fun D5 f5=>?_)⟩
  · obtain ⟨r,hr',rfl⟩:=List.mem_map.mp hx
    walk_at "vc"
    have e:decide (V.int r≠V.int (x1.1:Int))=!decide (r=(x1.1:Int)):=by
      rw [← decide_not]
      exact decide_eq_decide.mpr ⟨fun z y=>z (by rw [y]),fun z y=>z (by injection y)⟩
    rw [e] at h
    exact h
  · walk_at "vc"
    exact h
  rw [ne_map,← rowsT_drop]
  have s23:=Same.new (o:=.lst ((rowsT t (tb.filter fun x=>decide ((x.1:Int)≠(x1.1:Int)))).map V.int)) f5
  refine fin (dropK kvs (.inl (x1.1:Int))) (tb.filter fun x=>decide ((x.1:Int)≠(x1.1:Int))) D5 _ _ ((G21.put fp).trans s23) (s23 _ _ upd_same) ((tb21.drop _).same (del_any.trans s23)) (Nat.le_trans (List.length_filter_le _ _) lt) upd_same
end
theorem law_mk {K:PySem.W.Frag}{h:Heap}{mg:Str→Option Value}{fa f:Addr}{oc:Value}{od an:Option Addr}{osl:Array (Option Value)}{kV doc pm cdv ct:Value}(X:K.In h)(G:h.Ns mainGlobals mg)(hfa:mg "law"=some (.ref fa))(a:PySem.W.nsIn K mainGlobals "law"=some (some (.ref f)))
    (l:K.lookup f=some ⟨oc,od,.func (PySem.W.fnOf "law" "law" (defArgs s_law) (defBody s_law) (defScope s_law) .none kV doc pm an cdv ct),osl⟩) (c:PySem.W.codeIn K cdv "law"=true) (k:PySem.W.keepIn K (.ref f)=true) :
    ∃ fd,Fun K "law" "law" s_law fa fd∧∀ (s:Shared) (v:Value),BindsTo s fd ⟨[v],[]⟩ [("_law_script",v)]:=by
  have e:=hfa.symm.trans (PySem.W.mg_of X G a)
  cases e
  exact ⟨_,fun_mk l c k,fun s v=>.of_eq rfl⟩
theorem walk {l:PySem.W.OpenLaw}{q:Program}{loose:List Str}{XP:(Str→Option Value)→Heap→Prop}{YP:World→Heap→Prop}{d:DefRec}{K:Params→PySem.W.Frag}(hn:l.most=some 63)(hdf:d.params.defaults=[])
    (hY:∀ (w:World) (h:Heap),YP w h→(K w.params).In h)
    (F:∀ (w:World) (mg:Str→Option Value) (fa:Addr) (h:Heap),(K w.params).In h→h.Ns mainGlobals mg→mg d.name=some (.ref fa) →
      ∃ fd:FuncData,(∀ (s:Shared) (u:Value),BindsTo s fd ⟨[u],[]⟩ [("_law_script",u)])∧∀ base:Heap,(K w.params).In base→base.Ns mainGlobals mg→FnOk l.prog w (K w.params) mg base CX0 40 fa fd ["_law_script"] (spLaw (K w.params))) :
    PySem.W.WalkO q loose XP YP l.row.toRowW d [] (fun f vs=>PySem.call f vs) :=
  L2.walk_of (n:=63) (k:=40) (x:="_law_script") (CX:=fun _=>CX0) (sp:=fun w=>spLaw (K w.params)) hn (by decide) hdf ⟨rfl,by decide,by decide⟩ hY F (fun _ _ a ns hl _ hS=>⟨a,ns,rfl,hS,hl,fun _=>rfl⟩) fun _ _ _ _ _ z=>z
theorem ex_cd {K:PySem.W.Frag}{h:Heap}{mg:Str→Option Value}{x:Str}{C:Addr}{R:Addr→Prop}(X:K.In h)(G:h.Ns mainGlobals mg)(a:PySem.W.nsIn K mainGlobals x=some (some (.ref C)))(r:mg x=some (.ref C)→R C):∃ C,R C:=⟨C,r (PySem.W.mg_of X G a)⟩
end My
theorem PySem.W.Fast.te16515604883911736605:True:=trivial
def PySem.W.Fast.tw16515604883911736605:Unit:=()
theorem PySem.W.Fast.te11118852904399733717:True:=trivial
def PySem.W.Fast.tw11118852904399733717:Unit:=()
theorem PySem.W.Fast.te9182666560991962663:True:=trivial
def PySem.W.Fast.tw9182666560991962663:Unit:=()
theorem PySem.W.Fast.te8403559534865787773:True:=trivial
def PySem.W.Fast.tw8403559534865787773:Unit:=()
theorem PySem.W.Fast.te13052408679150730464:True:=trivial
def PySem.W.Fast.tw13052408679150730464:Unit:=()
theorem PySem.W.Fast.te16555476440528808052:True:=trivial
def PySem.W.Fast.tw16555476440528808052:Unit:=()
theorem PySem.W.Fast.te4868988410673395695:True:=trivial
def PySem.W.Fast.tw4868988410673395695:Unit:=()
open PySem PySem.W PyProof.Rows My L2
abbrev zP:=PySem.Challenge.rw_runmarks_k68_rows_and_sums.prog
local macro_rules | `(tactic| walk_at "d1")=>`(tactic| (dsimp only [L2.KOf]; refine' defAt_mk (by assumption) (by assumption) ?a ?l ?c ?k ?b; (case a=>k_is); (case l=>k_is); (case c=>k_is); (case k=>k_is); exact fun _ _ _ _ _ _=>all1 fun _=>rfl))
local macro_rules | `(tactic| walk_at "d2")=>`(tactic| (dsimp only [L2.KOf]; refine' defAt_mk (by assumption) (by assumption) ?a ?l ?c ?k ?b; (case a=>k_is); (case l=>k_is); (case c=>k_is); (case k=>k_is); exact fun _ _ _ _ _ _=>all2 fun _ _=>rfl))
local macro_rules | `(tactic| walk_at "d3")=>`(tactic| (dsimp only [L2.KOf]; refine' defAt_mk (by assumption) (by assumption) ?a ?l ?c ?k ?b; (case a=>k_is); (case l=>k_is); (case c=>k_is); (case k=>k_is); exact fun _ _ _ _ _ _=>all3 fun _ _ _=>rfl))
local macro_rules | `(tactic| walk_at "d4")=>`(tactic| (dsimp only [L2.KOf]; refine' defAt_mk (by assumption) (by assumption) ?a ?l ?c ?k ?b; (case a=>k_is); (case l=>k_is); (case c=>k_is); (case k=>k_is); exact fun _ _ _ _ _ _=>all4 fun _ _ _ _=>rfl))
local macro_rules | `(tactic| walk_at "i2")=>`(tactic| (refine' maker_mk ?a ?b ?c ?d ?e ?f ?g ?h; (case a=>k_is); (case b=>k_is); (case c=>k_is); (case d=>k_is); (case e=>k_is); (case f=>k_is); (case g=>k_is); exact fun _ _ _ _ _ _=>all2 fun _ _=>rfl))
local macro_rules | `(tactic| walk_at "i4")=>`(tactic| (refine' maker_mk ?a ?b ?c ?d ?e ?f ?g ?h; (case a=>k_is); (case b=>k_is); (case c=>k_is); (case d=>k_is); (case e=>k_is); (case f=>k_is); (case g=>k_is); exact fun _ _ _ _ _ _=>all4 fun _ _ _ _=>rfl))
local macro_rules | `(tactic| walk_at "m1")=>`(tactic| (refine' mdef_mk ?a ?b ?c ?d ?e ?f; (case a=>k_is); (case b=>k_is); (case c=>k_is); (case d=>k_is); (case e=>k_is); exact fun _ _ _ _ _ _=>all1 fun _=>rfl))
local macro_rules | `(tactic| walk_at "m2")=>`(tactic| (refine' mdef_mk ?a ?b ?c ?d ?e ?f; (case a=>k_is); (case b=>k_is); (case c=>k_is); (case d=>k_is); (case e=>k_is); exact fun _ _ _ _ _ _=>all2 fun _ _=>rfl))
local macro_rules | `(tactic| walk_at "cc")=>`(tactic| (refine' ⟨?a,?b,?c,?d⟩; (case a=>k_is); (case b=>k_is); (case c=>k_is); (case d=>k_is)))
local macro_rules | `(tactic| walk_at "ci")=>`(tactic| (refine' isi_to (by assumption) (by assumption) ?a ?b; (case a=>k_is); (case b=>kit_is)))
local macro_rules | `(tactic| walk_at "ck")=>`(tactic| (refine' ⟨?a,?b,?c⟩; (case a=>k_is); (case b=>k_is); (case c=>k_is)))
local macro_rules | `(tactic| walk_at "cn")=>`(tactic| (show PySem.W.findIn _ _ _ = _; k_is))
local macro_rules | `(tactic| walk_at "ic")=>`(tactic| (refine' int_mk (by assumption) (by assumption) ?a; (case a=>k_is)))
set_option maxRecDepth 100000 in
set_option maxHeartbeats 0 in
theorem PySem.Challenge.cw_runmarks_k68_rows_and_sums_holds : PySem.Challenge.rw_runmarks_k68_rows_and_sums.Holds := by
  w_on;o_law;k_head;(case hw=>w_witness2)
  k_fill
  refine My.walk (l:=PySem.Challenge.rw_runmarks_k68_rows_and_sums) rfl rfl (fun w h Y=>PySem.W.kIn_of Y) ?F
  case F =>
    intro w mg fa h KX G hmg
    have D_plain_rows:DefAt (L2.KOf KX) mg "plain_rows" s_plain_rows ["question","table"]:=by walk_at "d2"
    have D_plain_total:DefAt (L2.KOf KX) mg "plain_total" s_plain_total ["name","question","table"]:=by walk_at "d3"
    have D_plain_least:DefAt (L2.KOf KX) mg "plain_least" s_plain_least ["name","question","table"]:=by walk_at "d3"
    have D_l_cell_at:DefAt (L2.KOf KX) mg "_law_cell_at" s_l_cell_at ["_law_script","_law_k"]:=by walk_at "d2"
    have D_l_whole:DefAt (L2.KOf KX) mg "_law_whole" s_l_whole ["_law_found"]:=by walk_at "d1"
    have D_l_mixed:DefAt (L2.KOf KX) mg "_law_mixed" s_l_mixed ["_law_cell","_law_k"]:=by walk_at "d2"
    have D_l_flat:DefAt (L2.KOf KX) mg "_law_flat" s_l_flat ["_law_found","_law_due"]:=by walk_at "d2"
    have D_l_name_of:DefAt (L2.KOf KX) mg "_law_name_of" s_l_name_of ["_law_letters"]:=by walk_at "d1"
    have D_l_names:DefAt (L2.KOf KX) mg "_law_names" s_l_names ["_law_script","_law_most"]:=by walk_at "d2"
    have D_l_leaf:DefAt (L2.KOf KX) mg "_law_leaf" s_l_leaf ["_law_cell","_law_names_here","_law_wide"]:=by walk_at "d3"
    have D_l_built:DefAt (L2.KOf KX) mg "_law_built" s_l_built ["_law_script","_law_most"]:=by walk_at "d2"
    have D_l_made:DefAt (L2.KOf KX) mg "_law_made" s_l_made ["_law_tree"]:=by walk_at "d1"
    have D_l_holds:DefAt (L2.KOf KX) mg "_law_holds" s_l_holds ["_law_tree","_law_values"]:=by walk_at "d2"
    have D_l_numbers_in:DefAt (L2.KOf KX) mg "_law_numbers_in" s_l_numbers_in ["_law_tree"]:=by walk_at "d1"
    have D_l_measure:DefAt (L2.KOf KX) mg "_law_measure" s_l_measure ["_law_tree"]:=by walk_at "d1"
    have D_l_table:DefAt (L2.KOf KX) mg "_law_table" s_l_table ["_law_script","_law_names_here","_law_numbers"]:=by walk_at "d3"
    have D_l_counted:DefAt (L2.KOf KX) mg "_law_counted" s_l_counted ["_law_question","_law_tree"]:=by walk_at "d2"
    have D_l_summed:DefAt (L2.KOf KX) mg "_law_summed" s_l_summed ["_law_name","_law_question","_law_table_here","_law_rows"]:=by walk_at "d4"
    have e_Every:∃ C,CD_Every (L2.KOf KX) mg C:=by
      dsimp only [L2.KOf]
      refine' ex_cd (x:="Every") KX G ?aEvery ?bEvery
      (case aEvery=>k_is)
      intro z
      refine' ⟨z,?_,?_,?_,?_,?_,?_,?_⟩
      · walk_at "cc"
      · walk_at "m2"
      · walk_at "m1"
      · walk_at "m1"
      · walk_at "m1"
      · walk_at "m1"
      · walk_at "ck"
    obtain ⟨C_Every,cd_Every⟩:=e_Every
    have e_Nobody:∃ C,CD_Nobody (L2.KOf KX) mg C:=by
      dsimp only [L2.KOf]
      refine' ex_cd (x:="Nobody") KX G ?aNobody ?bNobody
      (case aNobody=>k_is)
      intro z
      refine' ⟨z,?_,?_,?_,?_,?_,?_,?_⟩
      · walk_at "cc"
      · walk_at "m2"
      · walk_at "m1"
      · walk_at "m1"
      · walk_at "m1"
      · walk_at "m1"
      · walk_at "ck"
    obtain ⟨C_Nobody,cd_Nobody⟩:=e_Nobody
    have e_Within:∃ C,CD_Within (L2.KOf KX) mg C:=by
      dsimp only [L2.KOf]
      refine' ex_cd (x:="Within") KX G ?aWithin ?bWithin
      (case aWithin=>k_is)
      intro z
      refine' ⟨z,?_,?_,?_,?_,?_,?_,?_,?_,?_,?_⟩
      · walk_at "cc"
      · walk_at "i4"
      · walk_at "m1"
      · walk_at "m2"
      · walk_at "m1"
      · walk_at "m1"
      · walk_at "m1"
      · walk_at "cn"
      · walk_at "cn"
      · walk_at "cn"
    obtain ⟨C_Within,cd_Within⟩:=e_Within
    have e_Opposite:∃ C,CD_Opposite (L2.KOf KX) mg C:=by
      dsimp only [L2.KOf]
      refine' ex_cd (x:="Opposite") KX G ?aOpposite ?bOpposite
      (case aOpposite=>k_is)
      intro z
      refine' ⟨z,?_,?_,?_,?_,?_,?_,?_,?_⟩
      · walk_at "cc"
      · walk_at "i2"
      · walk_at "m1"
      · walk_at "m2"
      · walk_at "m1"
      · walk_at "m1"
      · walk_at "m1"
      · walk_at "cn"
    obtain ⟨C_Opposite,cd_Opposite⟩:=e_Opposite
    have e_AllOf:∃ C,CD_AllOf (L2.KOf KX) mg C:=by
      dsimp only [L2.KOf]
      refine' ex_cd (x:="AllOf") KX G ?aAllOf ?bAllOf
      (case aAllOf=>k_is)
      intro z
      refine' ⟨z,?_,?_,?_,?_,?_,?_,?_,?_⟩
      · walk_at "cc"
      · walk_at "i2"
      · walk_at "m1"
      · walk_at "m2"
      · walk_at "m1"
      · walk_at "m1"
      · walk_at "m1"
      · walk_at "cn"
    obtain ⟨C_AllOf,cd_AllOf⟩:=e_AllOf
    have e_OneOf:∃ C,CD_OneOf (L2.KOf KX) mg C:=by
      dsimp only [L2.KOf]
      refine' ex_cd (x:="OneOf") KX G ?aOneOf ?bOneOf
      (case aOneOf=>k_is)
      intro z
      refine' ⟨z,?_,?_,?_,?_,?_,?_,?_,?_⟩
      · walk_at "cc"
      · walk_at "i2"
      · walk_at "m1"
      · walk_at "m2"
      · walk_at "m1"
      · walk_at "m1"
      · walk_at "m1"
      · walk_at "cn"
    obtain ⟨C_OneOf,cd_OneOf⟩:=e_OneOf
    have B:Blt mg:=by
      refine' ⟨PySem.W.mg_none_of KX G ?z0,PySem.W.mg_none_of KX G ?z1,PySem.W.mg_none_of KX G ?z2,PySem.W.mg_none_of KX G ?z3,PySem.W.mg_none_of KX G ?z4,PySem.W.mg_none_of KX G ?z5,PySem.W.mg_none_of KX G ?z6,PySem.W.mg_none_of KX G ?z7,PySem.W.mg_none_of KX G ?z8,PySem.W.mg_none_of KX G ?z9,PySem.W.mg_none_of KX G ?z10,PySem.W.mg_none_of KX G ?z11,PySem.W.mg_none_of KX G ?z12,PySem.W.mg_none_of KX G ?z13⟩
      (case z0=>k_is);(case z1=>k_is);(case z2=>k_is);(case z3=>k_is);(case z4=>k_is);(case z5=>k_is);(case z6=>k_is);(case z7=>k_is);(case z8=>k_is);(case z9=>k_is);(case z10=>k_is);(case z11=>k_is);(case z12=>k_is);(case z13=>k_is)
    have L:∃ fd,Fun (L2.KOf KX) "law" "law" s_law fa fd∧∀ (s:Shared) (v:Value),BindsTo s fd ⟨[v],[]⟩ [("_law_script",v)]:=by
      dsimp only [L2.KOf]
      refine' My.law_mk KX G hmg ?aL ?lL ?cL ?kL
      (case aL=>k_is);(case lL=>k_is);(case cL=>k_is);(case kL=>k_is)
    obtain ⟨fd,FL,bL⟩:=L
    refine ⟨fd,bL,fun base _ _=>?_⟩
    let c:Kd→Addr:=fun k=>match k with | .ev=>C_Every | .no=>C_Nobody | .wi=>C_Within | .op=>C_Opposite | .al=>C_AllOf | .on=>C_OneOf
    have c1:CD_Every (L2.KOf KX) mg (c .ev):=cd_Every
    have c2:CD_Nobody (L2.KOf KX) mg (c .no):=cd_Nobody
    have c3:CD_Within (L2.KOf KX) mg (c .wi):=cd_Within
    have c4:CD_Opposite (L2.KOf KX) mg (c .op):=cd_Opposite
    have c5:CD_AllOf (L2.KOf KX) mg (c .al):=cd_AllOf
    have c6:CD_OneOf (L2.KOf KX) mg (c .on):=cd_OneOf
    have h_l_mixed:=ok_mixed (P:=zP) (w:=w) (base:=base) D_l_mixed
    have h_l_cell_at:=ok_cell_at (P:=zP) (w:=w) (base:=base) B D_l_cell_at
    have h_l_whole:=ok_whole (P:=zP) (w:=w) (base:=base) B D_l_whole
    have h_l_name_of:=ok_name_of (P:=zP) (w:=w) (base:=base) B D_l_name_of
    have h_l_names:=ok_names (P:=zP) (w:=w) (base:=base) B h_l_mixed h_l_cell_at h_l_name_of D_l_names
    have h_l_leaf:=ok_leaf (P:=zP) (w:=w) (base:=base) B h_l_mixed D_l_leaf
    have h_l_built:=ok_built (P:=zP) (w:=w) (base:=base) B h_l_mixed h_l_cell_at h_l_names h_l_leaf D_l_built
    have h_l_numbers_in:=ok_nums (P:=zP) (w:=w) (base:=base) B D_l_numbers_in 20
    have h_Opposite:=ok_iOp (P:=zP) (w:=w) (base:=base) c4
    have h_l_made:=fun N=>ok_made (P:=zP) (w:=w) (base:=base) (C:=c) (N:=N) ⟨c1.at_,c1.new⟩ ⟨c2.at_,c2.new⟩ (ok_iWi c3) h_Opposite (ok_iAl B c5) (ok_iOn B c6) D_l_made 20
    have h_l_holds:=fun N hN=>ok_lholds (P:=zP) (w:=w) (base:=base) (N:=N) B hN D_l_holds 20 (by decide)
    have h_holds:=fun N k=>ok_holdsM (P:=zP) (w:=w) (base:=base) (N:=N) B c1 c2 c3 c4 c5 c6 30 k
    have h_l_measure:=ok_meas (P:=zP) (w:=w) (base:=base) B D_l_measure 20
    have h_lv:=fun N=>ok_lv (P:=zP) (w:=w) (base:=base) (N:=N) c1 c2 c3 c4 c5 c6 B 20
    have h_dp:=fun N=>ok_dp (P:=zP) (w:=w) (base:=base) (N:=N) c1 c2 c3 c4 c5 c6 B 20
    have h_mn:=fun N=>ok_mn (P:=zP) (w:=w) (base:=base) (N:=N) c1 c2 c3 c4 c5 c6 B 20
    have h_l_counted:=fun N hN=>ok_counted (P:=zP) (w:=w) (base:=base) (C:=c) (N:=N) B hN h_l_whole h_l_measure (h_lv N) (h_dp N) (h_mn N) D_l_counted
    have h_l_table:=ok_table (P:=zP) (w:=w) (base:=base) B h_l_mixed D_l_table
    have h_l_flat:=ok_flat (P:=zP) (w:=w) (base:=base) B h_l_whole D_l_flat
    have h_plain_rows:=fun N=>ok_pr (P:=zP) (w:=w) (base:=base) (C:=c) (N:=N) B (h_holds N) D_plain_rows
    have h_plain_total:=fun N=>ok_pt (P:=zP) (w:=w) (base:=base) (C:=c) (N:=N) B (h_plain_rows N) D_plain_total
    have h_plain_least:=fun N=>ok_pl (P:=zP) (w:=w) (base:=base) (C:=c) (N:=N) B (h_plain_rows N) D_plain_least
    have h_l_summed:=fun N=>ok_summed (P:=zP) (w:=w) (base:=base) (C:=c) (N:=N) B h_l_whole h_l_flat (h_plain_total N) (h_plain_least N) D_l_summed
    exact (ok_law B h_l_cell_at h_l_built h_l_names h_l_made h_l_numbers_in h_l_table h_l_holds h_l_counted h_l_summed h_l_flat h_plain_rows h_Opposite FL).mono (by decide)
#print axioms PySem.Challenge.cw_runmarks_k68_rows_and_sums_holds
