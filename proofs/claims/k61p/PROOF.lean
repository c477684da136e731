import PyProof.Rows.All
import Wide.All
import OpenK.AllK
import Wide.FinOn
import Lean
import PyProof.EqAt
import PyProof.EqKinds
import PyProof.TupleCall
import PyProof.ZipIter
import PyProof.Draws
import PyProof.WalksEnum
import KE.KSortTup
import PyProof.SetKind
import PyProof.WalksS
import PyProof.CollectWalk
import PyProof.DictKinds
import KE.KEqDict
import PyProof.Rows.TupAdd
import PyProof.NeKinds
import PyProof.MeetsSeq
import KE.KDictList
import PyProof.FString5
import PyProof.Rows.EnumRows
import PySem.Challenge.RW_everyplan_k61_trees_by_deeds
set_option Elab.async false
set_option linter.all false
set_option maxRecDepth 100000
namespace L2
open PySem PySem.Spec PyProof.Rows
abbrev Key:=Sum Int Str
def keyIs:Key→Value→Bool
 | .inl k,v=>Value.isInt k v
 | .inr x,v=>Value.isStrOf x v
def keyH (w:World):Key→Int
 | .inl k=>hashInt k
 | .inr x=>hashStr w x
theorem zao:∀ {k:Key}{v:Value},keyIs k v=true→(∃ i t,k=Sum.inl i∧v=Value.int i t)∨(∃ x t,k=Sum.inr x∧v=Value.str x t)
 | .inl i,v,h=>by
  obtain⟨t,e⟩:=Value.isInt_shape (k:=i) (v:=v) h
  exact .inl ⟨i,t,rfl,e⟩
 | .inr x,v,h=>by
  obtain⟨t,e⟩:=Value.isStrOf_shape (x:=x) (v:=v) h
  exact .inr ⟨x,t,rfl,e⟩
theorem keyIs_int (i:Int) (t:Tok):keyIs (.inl i) (.int i t)=true:=by simp [keyIs,Value.isInt]
theorem keyIs_str (x:Str) (t:Tok):keyIs (.inr x) (.str x t)=true:=by simp [keyIs,Value.isStrOf]
theorem key_ll (a b:Int):decide ((Sum.inl a:Key)=Sum.inl b)=(a==b):=by
 by_cases e:a=b
 ·subst e;simp
 ·have h:¬ (Sum.inl a:Key)=Sum.inl b:=fun q=>e (Sum.inl.inj q)
  rw[decide_eq_false h]
  exact(beq_eq_false_iff_ne.mpr e).symm
theorem key_rr (a b:Str):decide ((Sum.inr a:Key)=Sum.inr b)=decide (a=b):=by
 by_cases e:a=b
 ·subst e;simp
 ·have h:¬ (Sum.inr a:Key)=Sum.inr b:=fun q=>e (Sum.inr.inj q)
  rw[decide_eq_false h,decide_eq_false e]
theorem key_lr (a:Int) (b:Str):decide ((Sum.inl a:Key)=Sum.inr b)=false:=decide_eq_false (fun q=>nomatch q)
theorem key_rl (a:Str) (b:Int):decide ((Sum.inr a:Key)=Sum.inl b)=false:=decide_eq_false (fun q=>nomatch q)
def mixKind (prog:Program) (w:World):PySem.KeyKind prog w Key where
 is:=keyIs
 hash:=keyH w
 inj:=fun v a b ha hb=>by
  rcases zao ha with ⟨i,t,rfl,rfl⟩ | ⟨x,t,rfl,rfl⟩
  ·rcases zao hb with ⟨j,u,rfl,e⟩ | ⟨y,u,rfl,e⟩
   ·injection e with e1 _;rw[e1]
   ·exact nomatch e
  ·rcases zao hb with ⟨j,u,rfl,e⟩ | ⟨y,u,rfl,e⟩
   ·exact nomatch e
   ·injection e with e1 _;rw[e1]
 byValue:=fun k v h=>by
  rcases zao h with ⟨i,t,rfl,rfl⟩ | ⟨x,t,rfl,rfl⟩<;>rfl
 pyHash:=fun hv h=>by
  rcases zao hv with ⟨i,t,rfl,rfl⟩ | ⟨x,t,rfl,rfl⟩
  ·exact wpAny_pyHash_int h
  ·exact wpAny_pyHash_str h
 eqBool:=fun hu hv h=>by
  rcases zao hu with ⟨i,t,rfl,rfl⟩ | ⟨x,t,rfl,rfl⟩
  ·rcases zao hv with ⟨j,u,rfl,rfl⟩ | ⟨y,u,rfl,rfl⟩
   ·rw[key_ll] at h;exact wpAny_eqBool_int h
   ·rw[key_lr] at h;exact SeqAt.EqAt.int_str i t y u _ _ _ _ h
  ·rcases zao hv with ⟨j,u,rfl,rfl⟩ | ⟨y,u,rfl,rfl⟩
   ·rw[key_rl] at h;exact SeqAt.EqAt.str_int x t j u _ _ _ _ h
   ·rw[key_rr] at h;exact wpAny_eqBool_str h
 «strs»:=fun k x t v h=>by
  rcases zao h with ⟨i,u,rfl,e⟩ | ⟨y,u,rfl,e⟩
  ·exact nomatch e
  ·injection e with e1 _
   subst e1
   cases v<;>rfl
theorem zeX (prog:Program) (w:World) (i:Int) (t:Tok):(mixKind prog w).is (.inl i) (.int i t)=true:=keyIs_int i t
theorem zeW (prog:Program) (w:World) (x:Str) (t:Tok):(mixKind prog w).is (.inr x) (.str x t)=true:=keyIs_str x t
end L2
namespace L2
open PySem PySem.Spec PyProof.Rows
inductive V where
 | non | bl (b:Bool) | int (i:Int) | str (x:Str) | byt (b:Array UInt8) | flt (b:UInt64) | ref (a:Addr) | ty (n:String)
 deriving DecidableEq
def RelV:V→Value→Prop
 | .non,u=>u=Value.none
 | .bl b,u=>u=Value.bool b
 | .int i,u=>∃ t,u=Value.int i t
 | .str x,u=>∃ t,u=Value.str x t
 | .byt b,u=>∃ t,u=Value.bytes b t
 | .flt b,u=>∃ t,u=Value.float b t
 | .ref a,u=>u=Value.ref a
 | .ty n,u=>u=Value.type n
abbrev Vals:List V→List Value→Prop:=Paired RelV
theorem Vals.length {xs:List V}{us:List Value} (r:Vals xs us):xs.length=us.length:=Paired.length r
theorem Vals.get:∀ {xs:List V}{us:List Value}{i:Nat}{x:V},Vals xs us→xs[i]?=some x→∃ u,us[i]?=some u∧RelV x u
 | _,_,_,_,.nil,e=>by simp at e
 | _,_,0,_,.cons r _,e=>by simp at e;subst e;exact⟨_,rfl,r⟩
 | _,_,i+1,x,.cons _ t,e=>by
  obtain⟨u,h1,h2⟩:=Vals.get (i:=i) (x:=x) t (by simpa using e)
  exact⟨u,by simpa using h1,h2⟩
theorem Vals.set {x:V}{u:Value} (r:RelV x u):∀ {xs:List V}{us:List Value} (i:Nat),Vals xs us→Vals (xs.set i x) (us.set i u)
 | _,_,_,.nil=>.nil
 | _,_,0,.cons _ t=>.cons r t
 | _,_,i+1,.cons q t=>.cons q (Vals.set r i t)
theorem Vals.append:∀ {xs ys:List V}{us ws:List Value},Vals xs us→Vals ys ws→Vals (xs++ys) (us++ws)
 | _,_,_,_,.nil,s=>s
 | _,_,_,_,.cons r t,s=>.cons r (Vals.append t s)
theorem Vals.take:∀ {xs:List V}{us:List Value} (n:Nat),Vals xs us→Vals (xs.take n) (us.take n)
 | _,_,0,_=>.nil
 | _,_,_+1,.nil=>.nil
 | _,_,n+1,.cons r t=>.cons r (Vals.take n t)
theorem Vals.drop:∀ {xs:List V}{us:List Value} (n:Nat),Vals xs us→Vals (xs.drop n) (us.drop n)
 | _,_,0,r=>r
 | _,_,_+1,.nil=>.nil
 | _,_,n+1,.cons _ t=>Vals.drop n t
def RelO:Option V→Option Value→Prop
 | some v,some u=>RelV v u
 | none,none=>True
 | _,_=>False
def KV {κ:Type}:List (κ×V)→List (κ×Value)→Prop:=Paired fun(p:κ×V) (q:κ×Value)=>p.1=q.1∧RelV p.2 q.2
def kV:Key→V
 | .inl i=>.int i
 | .inr x=>.str x
inductive HO where
 /-- a list -/
 | lst (xs:List V)
 /-- a tuple (never changes) -/
 | tup (xs:List V)
 /-- a dict whose keys are ints and texts;one whose keys are tuples of ints and texts (the empty one is both) -/
 | dK (kvs:List (Key×V)) | dT (kvs:List (List Key×V))
 /-- a set of ints: its members,its size -/
 | set (S:Int→Bool) (n:Nat)
 /-- an instance of the class at C,its dict at dx,its attributes -/
 | ins (C dx:Addr) (fs:List (Str×V))
 /-- the dict of the instance at x -/
 | own (x:Addr)
 /-- the dict of an exception -/
 | xd (fs:List (Str×V))
 /-- a bound method,f of x -/
 | met (f x:Addr)
 /-- a range object lo,lo+1,.. below hi -/
 | rng (lo hi:Int)
 /-- a thing that is known to the object (the script;a dict while a loop walks it): read,never written while it is so -/
 | frz (o:Obj) (u:HO)
 /-- a code object's table -/
 | tbl (ps:Array Value)
 /-- the code object of a def of that name -/
 | cod (q:Str)
 /-- any other thing,by what is true of its one object (a def of one's own: SetO a S n:=HO.ext fun h=>..) -/
 | ext (φ:Heap→Prop)
abbrev Hp:=Addr→Option HO
def upd (H:Hp) (a:Addr) (o:HO):Hp:=fun b=>if b=a then some o else H b
theorem zab {H:Hp}{a:Addr}{o:HO}:upd H a o a=some o:=by unfold upd;rw[if_pos rfl]
theorem zac {H:Hp}{a b:Addr}{o:HO} (h:b≠a):upd H a o b=H b:=by unfold upd;rw[if_neg h]
theorem ne_of {H:Hp}{a b:Addr}{o u:HO} (h:H a=some o) (h':H b=some u) (d:o≠u):a≠b:=by
 intro e;subst e;rw[h] at h';exact d (Option.some.inj h')
theorem zae {H:Hp}{a b:Addr}{o:HO} (h:H a=some o) (h':H b=none):a≠b:=by
 intro e;subst e;rw[h] at h';cases h'
section
variable (P:Program) (w:World)
def ObjOk (H:Hp) (h:Heap) (a:Addr):HO→Prop
 | .lst xs=>xs.length≤sizeLine∧∃ (its:List Value) (n:Nat),Vals xs its∧h.get? a=some { cls:=.type "list",data:=.seq its.toArray n }
 | .tup xs=>xs.length≤sizeLine∧∃ its:List Value,Vals xs its∧IsTup h a its.toArray
 | .dK kvs=>kvs.length≤sizeLine∧(a==sysModules)=false∧∃ vs,KV kvs vs∧h.DictOf (mixKind P w) a vs
 | .dT kvs=>kvs.length≤sizeLine∧(a==sysModules)=false∧∃ xs:List (List Key×Addr×Value),
   Paired (fun(p:List Key×V) (q:List Key×Addr×Value)=>p.1=q.1∧H q.2.1=some (.tup (p.1.map kV))∧RelV p.2 q.2.2) kvs xs ∧
   ∃ o es ep,h.get? a=some o∧o.ExactDict∧o.data=.dict es ep∧es.toList=xs.map (entryOfKey (tupleKind (mixKind P w)))∧(xs.map (·.1)).Nodup
 | .set S n=>h.SetOf (intKind P w) a S n
 | .ins C dx fs=>H dx=some (.own a)∧fs.length≤1000∧dx≠a∧h.get? a=some (PySem.W.instObj C dx) ∧
   ∃ mA,h.Ns1 dx mA∧(∀ f,RelO (fs.lookup f) (mA f))∧PySem.Within mA (fs.map (·.1))
 | .own _=>∃ o,h.get? a=some o
 | .xd fs=>∃ mA,h.Ns1 a mA∧∀ f,RelO (fs.lookup f) (mA f)
 | .rng lo hi=>∃ t u v,h.get? a=some { cls:=.type "range",data:=.fields #[.int lo t,.int hi u,.int 1 v] }
 | .frz o u=>h.get? a=some o∧ObjOk H h a u
 | .tbl ps=>∃ more:Array Value,h.get? a=some { cls:=.none,data:=.fields more }∧(more=#[]∨∃ (c:Addr) (q:Str) (k:Tok) (l m:Nat),more=#[rawInt l,rawInt m,.ref c]∧ps=#[.str q k,rawInt l,rawInt m]∧H c=some (.cod q))
 | .cod q=>h.CodeRec (.ref a) q
 | .met f x=>h.get? a=some (PySem.W.methodObj (.ref f) (.ref x))
 | .ext φ=>φ h∧(∃ o,h.get? a=some o)∧∀ h1 h2:Heap,φ h1→(∀ o,h1.get? a=some o→h2.get? a=some o)→φ h2
def HOk (H:Hp) (h:Heap):Prop:=∀ a o,H a=some o→ObjOk P w H h a o
end
section
variable {P:Program}{w:World}{H H':Hp}{h h':Heap}{a:Addr}{o:HO}
theorem ObjOk.lt (x:ObjOk P w H h a o):a<h.objs.size:=by
 cases o with
 | lst xs=>obtain⟨_,_,_,_,e⟩:=x;exact Heap.lt_size e
 | tup xs=>obtain⟨_,_,_,p⟩:=x;exact p.lt
 | dK kvs=>obtain⟨_,_,_,_,o,_,_,e,_⟩:=x;exact Heap.lt_size e
 | dT kvs=>obtain⟨_,_,_,_,o,_,_,e,_⟩:=x;exact Heap.lt_size e
 | set S n=>obtain⟨o,_,_,_,e,_⟩:=x;exact Heap.lt_size e
 | ins C dx fs=>obtain⟨_,_,_,e,_⟩:=x;exact Heap.lt_size e
 | own y=>obtain⟨_,e⟩:=x;exact Heap.lt_size e
 | xd fs=>obtain⟨_,⟨_,_,_,e,_⟩,_⟩:=x;exact Heap.lt_size e
 | rng lo hi=>obtain⟨_,_,_,e⟩:=x;exact Heap.lt_size e
 | frz ob u=>obtain⟨e,_⟩:=x;exact Heap.lt_size e
 | tbl ps=>obtain⟨_,e,_⟩:=x;exact Heap.lt_size e
 | cod q=>obtain⟨c,o,vs,t,e,e1,_⟩:=x;cases e;exact Heap.lt_size e1
 | met f y=>exact Heap.lt_size (show h.get? a=some _ from x)
 | ext φ=>obtain⟨_,⟨_,e⟩,_⟩:=x;exact Heap.lt_size e
theorem Paired.mapP {α β:Type}{F G:α→β→Prop}:∀ {l₁:List α}{l₂:List β},Paired F l₁ l₂→(∀ a b,F a b→G a b)→Paired G l₁ l₂
 | _,_,.nil,_=>.nil
 | _,_,.cons r t,f=>.cons (f _ _ r) (Paired.mapP t f)
theorem ObjOk.stay (x:ObjOk P w H h a o) (k:∀ b u,(b=a∨H b=some (.own a))→h.get? b=some u→h'.get? b=some u)
  (ho:∀ b,H b=some (.own a)→H' b=some (.own a)) (ht:∀ b xs,H b=some (.tup xs)→H' b=some (.tup xs)) (hc:∀ b q,H b=some (.cod q)→H' b=some (.cod q):=by exact fun _ _ q=>q):ObjOk P w H' h' a o:=by
 induction o with
 | lst xs=>obtain⟨z,its,n,r,e⟩:=x;exact⟨z,its,n,r,k _ _ (.inl rfl) e⟩
 | tup xs=>obtain⟨z,its,r,ob,e,c⟩:=x;exact⟨z,its,r,ob,k _ _ (.inl rfl) e,c⟩
 | dK kvs=>obtain⟨z,y,vs,r,ob,es,ep,e,c⟩:=x;exact⟨z,y,vs,r,ob,es,ep,k _ _ (.inl rfl) e,c⟩
 | dT kvs=>
  obtain⟨z,y,xs,r,ob,es,ep,e,c⟩:=x
  exact⟨z,y,xs,Paired.mapP r fun p q z=>⟨z.1,ht _ _ z.2.1,z.2.2⟩,ob,es,ep,k _ _ (.inl rfl) e,c⟩
 | set S n=>obtain⟨ob,es,ep,t,e,c⟩:=x;exact⟨ob,es,ep,t,k _ _ (.inl rfl) e,c⟩
 | ins C dx fs=>
  obtain⟨d,z,ne,e,mA,⟨od,es,ep,e2,c⟩,r⟩:=x
  exact⟨ho _ d,z,ne,k _ _ (.inl rfl) e,mA,⟨od,es,ep,k _ _ (.inr d) e2,c⟩,r⟩
 | own y=>obtain⟨ob,e⟩:=x;exact⟨ob,k _ _ (.inl rfl) e⟩
 | xd fs=>obtain⟨mA,⟨od,es,ep,e,c⟩,r⟩:=x;exact⟨mA,⟨od,es,ep,k _ _ (.inl rfl) e,c⟩,r⟩
 | rng lo hi=>obtain⟨t,u,v,e⟩:=x;exact⟨t,u,v,k _ _ (.inl rfl) e⟩
 | frz ob u ih=>obtain⟨e,q⟩:=x;exact⟨k _ _ (.inl rfl) e,ih q⟩
 | tbl ps=>
  obtain⟨more,e,r⟩:=x
  refine⟨more,k a _ (.inl rfl) e,?_⟩
  rcases r with r | ⟨c,q,tk,l,m,e1,e2,e3⟩
  ·exact .inl r
  ·exact .inr ⟨c,q,tk,l,m,e1,e2,hc _ _ e3⟩
 | cod q=>obtain⟨c,o,vs,t,e,e1,e2⟩:=x;cases e;exact⟨a,o,vs,t,rfl,k _ _ (.inl rfl) e1,e2⟩
 | met f y=>
  have e:h.get? a=some (PySem.W.methodObj (.ref f) (.ref y)):=x
  show h'.get? a=some (PySem.W.methodObj (.ref f) (.ref y))
  exact k a _ (.inl rfl) e
 | ext φ=>obtain⟨p,⟨o,e⟩,st⟩:=x;exact⟨st _ _ p fun o q=>k _ _ (.inl rfl) q,⟨o,k _ _ (.inl rfl) e⟩,st⟩
theorem HOk.lt (x:HOk P w H h) (e:H a=some o):a<h.objs.size:=(x a o e).lt
theorem HOk.fresh (x:HOk P w H h) (e:h.objs.size≤a):H a=none:=by
 cases q:H a with
 | none=>rfl
 | some u=>exact absurd (Nat.lt_of_lt_of_le (x.lt q) e) (Nat.lt_irrefl _)
theorem HOk.kept (x:HOk P w H h) (k:∀ b u,h.get? b=some u→h'.get? b=some u):HOk P w H h':=fun a o e=>
 (x a o e).stay (fun b u _ q=>k b u q) (fun _ q=>q) fun _ _ q=>q
theorem HOk.laid (x:HOk P w H h) (k:∀ b u,h.get? b=some u→h'.get? b=some u) (hp:h.objs.size≤a) (new:ObjOk P w (upd H a o) h' a o):HOk P w (upd H a o) h':=fun b u e=>by
 have hn:=x.fresh hp
 by_cases hb:b=a
 ·subst hb;rw[zab] at e;cases e;exact new
 ·rw[zac hb] at e
  exact(x b u e).stay (hc:=fun c xs q=>by rw[zac (zae q hn)];exact q) (fun c v _ q=>k c v q) (fun c q=>by rw[zac (zae q hn)];exact q) fun c xs q=>by rw[zac (zae q hn)];exact q
end
def Rd (H:Hp) (a:Addr) (u:HO):Prop:=H a=some u∨∃ o,H a=some (.frz o u)
theorem Rd.ok {P:Program}{w:World}{H:Hp}{h:Heap}{a:Addr}{u:HO} (r:Rd H a u) (x:HOk P w H h):ObjOk P w H h a u:=by
 rcases r with r | ⟨o,r⟩
 ·exact x a u r
 ·obtain⟨_,q⟩:=x a _ r
  exact q
def Mut:Option HO→Prop
 | some (.lst _)=>True
 | some (.dK _)=>True
 | some (.dT _)=>True
 | some (.set _ _)=>True
 | some (.ins _ _ _)=>True
 | some (.ext _)=>True
 | _=>False
section
variable {P:Program}{w:World}{H:Hp}{h h':Heap}{x e:Addr}{o':HO}
theorem HOk.write (ok:HOk P w H h) (mu:Mut (H x)) (he:e=x∨H e=some (.own x)) (k:∀ b u,b≠e→h.get? b=some u→h'.get? b=some u) (heo:∃ u,h'.get? e=some u)
  (new:ObjOk P w (upd H x o') h' x o'):HOk P w (upd H x o') h':=fun b u q=>by
 have nown:∀ c y,H c=some (.own y)→c≠x:=fun c y r z=>by subst z;rw[r] at mu;exact mu
 have ntup:∀ c xs,H c=some (.tup xs)→c≠x:=fun c xs r z=>by subst z;rw[r] at mu;exact mu
 have ncod:∀ c xs,H c=some (.cod xs)→c≠x:=fun c xs r z=>by subst z;rw[r] at mu;exact mu
 by_cases hb:b=x
 ·subst hb;rw[zab] at q;cases q;exact new
 ·rw[zac hb] at q
  by_cases hbe:b=e
  ·have q':H b=some (.own x):=by
    rcases he with z | z
    ·exact absurd (hbe.trans z) hb
    ·rw[hbe];exact z
   rw[q] at q';cases q'
   obtain⟨v,hv⟩:=heo
   exact⟨v,by rw[hbe];exact hv⟩
  ·refine(ok b u q).stay (hc:=fun c xs r=>by rw[zac (ncod c xs r)];exact r) (fun c v hc r=>k c v ?_ r) (fun c r=>by rw[zac (nown c b r)];exact r) fun c xs r=>by rw[zac (ntup c xs r)];exact r
   rcases hc with rfl | hc
   ·exact hbe
   ·rintro rfl
    rcases he with z | z
    ·exact nown c b hc z
    ·rw[hc] at z;cases z;exact hb rfl
end
structure Un (fs ex:List Addr) (H H':Hp) (h h':Heap):Prop where
 keep:∀ b o,h.get? b=some o→H b=none→b∉fs→b∉ex→h'.get? b=some o
 slot:∀ b o,h.get? b=some o→H b=none→b∈fs→b∉ex→∃ sl,h'.get? b=some { o with slots:=sl }
 free:∀ b o,h.get? b=some o→H b=none→b∉ex→H' b=none
 there:∀ b o,h.get? b=some o→b∉ex→∃ o',h'.get? b=some o'
 tups:∀ b xs,H b=some (.tup xs)→H' b=some (.tup xs)
 frzs:∀ b o u,H b=some (.frz o u)→H' b=some (.frz o u)
 tbls:∀ b ps,H b=some (.tbl ps)→∃ more,H' b=some (.tbl (ps++more))
section
variable {fs fs' ex ex':List Addr}{H H1 H2:Hp}{h h1 h2 h':Heap}{a x e:Addr}{o:HO}
theorem Un.any (u:Un fs ex H H1 h h1){b:Addr}{ob:Obj} (q:h.get? b=some ob) (n:H b=none) (hx:b∉ex):∃ sl,h1.get? b=some { ob with slots:=sl }:=by
 by_cases hb:b∈fs
 ·exact u.slot b ob q n hb hx
 ·exact⟨ob.slots,u.keep b ob q n hb hx⟩
theorem Un.kept (k:∀ b u,h.get? b=some u→h'.get? b=some u):Un fs ex H H h h':=
 ⟨fun b ob q _ _ _=>k b ob q,fun b ob q _ _ _=>⟨ob.slots,k b ob q⟩,fun _ _ _ n _=>n,fun b ob q _=>⟨ob,k b ob q⟩,fun _ _ q=>q,fun _ _ _ q=>q,fun _ ps q=>⟨#[],by rw[q];simp⟩⟩
theorem Un.refl:Un fs ex H H h h:=Un.kept fun _ _ q=>q
theorem Un.laid (k:∀ b u,h.get? b=some u→h'.get? b=some u) (hp:h.objs.size≤a) (hn:H a=none):Un fs ex H (upd H a o) h h' where
 keep:=fun b u q _ _ _=>k b u q
 slot:=fun b u q _ _ _=>⟨u.slots,k b u q⟩
 free:=fun b u q n _=>by rw[zac (Nat.ne_of_lt (Nat.lt_of_lt_of_le (Heap.lt_size q) hp))];exact n
 there:=fun b u q _=>⟨u,k b u q⟩
 tups:=fun b xs q=>by rw[zac (zae q hn)];exact q
 frzs:=fun b u xs q=>by rw[zac (zae q hn)];exact q
 tbls:=fun b ps q=>⟨#[],by rw[zac (zae q hn),q];simp⟩
theorem Un.write (mu:Mut (H x)) (he:e=x∨H e=some (.own x)) (k:∀ b u,b≠e→h.get? b=some u→h'.get? b=some u) (heo:∃ u,h'.get? e=some u):Un fs ex H (upd H x o) h h':=by
 have hx:∀ b,H b=none→b≠x:=fun b n z=>by subst z;rw[n] at mu;exact mu
 have hb:∀ b,H b=none→b≠e:=fun b n z=>by
  subst z
  rcases he with r | r
  ·exact hx b n r
  ·rw[n] at r;cases r
 have hm:∀ b u,H b=some u→¬ Mut (some u)→b≠x:=fun b u q nm z=>by subst z;rw[q] at mu;exact nm mu
 refine⟨fun b u q n _ _=>k b u (hb b n) q,fun b u q n _ _=>⟨u.slots,k b u (hb b n) q⟩,fun b u q n _=>by rw[zac (hx b n)];exact n,fun b u q _=>?_,
  fun b xs q=>by rw[zac (hm b _ q fun z=>z)];exact q,fun b u xs q=>by rw[zac (hm b _ q fun z=>z)];exact q,fun b ps q=>⟨#[],by rw[zac (hm b _ q fun z=>z),q];simp⟩⟩
 by_cases hbe:b=e
 ·subst hbe;exact heo
 ·exact⟨u,k b u hbe q⟩
end
def trk (h:Heap) (H:Hp):List Addr:=(List.range h.objs.size).filter fun a=>(H a).isSome
def hidT (h:Heap) (H:Hp):Heap:=PySem.W.hideAll h (trk h H)
theorem hidT_size (h:Heap) (H:Hp):(hidT h H).objs.size=h.objs.size:=PySem.W.hideAll_size _ _
theorem hidT_get {h:Heap}{H:Hp}{b:Addr}{o:Obj} (e:h.get? b=some o) (n:H b=none):(hidT h H).get? b=some o:=
 PySem.W.hideAll_get _ e fun hm=>by
  have q:(H b).isSome=true:=(List.mem_filter.mp hm).2
  rw[n] at q;simp at q
theorem of_hidT {h:Heap}{H:Hp}{b:Addr}{o:Obj} (e:(hidT h H).get? b=some o):h.get? b=some o∧H b=none:=by
 have e':h.get? b=some o:=PySem.W.of_hideAll (trk h H) e
 refine⟨e',?_⟩
 cases q:H b with
 | none=>rfl
 | some x=>
  have hm:b∈trk h H:=List.mem_filter.mpr ⟨List.mem_range.mpr (Heap.lt_size e'),by simp [q]⟩
  have z:(hidT h H).get? b=none:=PySem.W.hideAll_none (trk h H) hm
  rw[z] at e;cases e
def allNews (g h:Heap) (L:Addr):List (Addr×Obj):=(List.range h.objs.size).filterMap fun a=>if a=L∨(g.get? a).isSome=true then none else (h.get? a).map fun o=>(a,o)
def rest (g h:Heap) (L d:Addr):List (Addr×Obj):=(allNews g h L).filter fun p=>decide (p.1≠d)
end L2
namespace L2
open PySem PySem.Spec PyProof.Rows
structure Mod (K:PySem.W.Frag) (mg:Str→Option Value) (base:Heap):Prop where
 kin:K.In base
 glob:base.Ns mainGlobals mg
 blt:∃ mb,base.Ns builtinsNs mb∧∀ x:Str,x≠"__name__"→mb x=bootBuiltins x
 nolimit:base.NoLimit
structure Cx where
 prog:Program
 w:World
 K:PySem.W.Frag
 mg:Str→Option Value
 base:Heap
 A:Around
 N:List Str
 s₀:Shared
 H₀:Hp
 env:Env
 outer:List Env
 stack:List Env
 ex:List Addr
 fn:Str→Bool
 calm:Bool
 pn:List (Addr×Obj)
 xe:Value→Shared→Prop
def frs (l:List Env):List Addr:=l.filterMap (·.frame)
abbrev Cx.fs (X:Cx):List Addr:=frs X.outer
def Vis (sc:Scope) (x:Str):Prop:=sc.names.lookup x=some .local∨sc.names.lookup x=some .cell∨sc.names.lookup x=some .free
def Loc (sc:Scope) (x:Str):Prop:=sc.names.lookup x=some .local∨sc.names.lookup x=some .cell
def Look (env:Env) (h:Heap) (m:Str→Option Value) (x:Str) (u:Value):Prop:=
 (env.kindOf x=some .local∧m x=some u)∨((env.kindOf x=some .cell∨env.kindOf x=some .free)∧∃ c,env.cells.lookup x=some c∧h.IsCell c (some u))
structure Cx.Ok (X:Cx):Prop where
 mod:Mod X.K X.mg X.base
 kind:X.env.scope.kind=.function
 glob:X.env.globals=mainGlobals
 blt:X.env.builtins=builtinsNs
 above:X.s₀.heap.objs.size≤X.env.locals
 inj:∀ x y c,X.env.cells.lookup x=some c→X.env.cells.lookup y=some c→x=y
 has:∀ x,(X.env.kindOf x=some .cell∨X.env.kindOf x=some .free)→∃ c,X.env.cells.lookup x=some c
 cab:∀ x c,X.fn x=true→X.env.cells.lookup x=some c→X.s₀.heap.objs.size≤c
 hd:X.calm=true→X.A.handled=none
 frames:X.A.frames=some X.stack
 stk:X.stack=X.outer∨(X.stack=X.env::X.outer∧X.env.frame=some X.env.locals)
 exf:∀ b∈X.ex,b≠X.env.locals∧∀ x c,X.env.cells.lookup x=some c→c≠b
 bs:∀ b o,X.base.get? b=some o→X.s₀.heap.get? b=some o∧X.H₀ b=none
 bsz:X.base.objs.size≤X.s₀.heap.objs.size
 noex:∀ b o,X.base.get? b=some o→b∉X.ex
 exfs:∀ b∈X.ex,b∉X.fs
 funs:X.s₀.heap.FunFrames X.base X.outer
 frf:∀ b∈X.fs,X.H₀ b=none
structure Inv (X:Cx) (pins:List (Addr×Obj)) (σ:List (Option V)) (H:Hp) (s:Shared):Prop where
 ok:X.Ok
 os:s.os=X.s₀.os
 bare:AllBare s.gens
 base:Un X.fs X.ex X.H₀ H X.s₀.heap s.heap
 loc:∃ m,s.heap.Ns X.env.locals m∧∀ (i:Nat) (x:Str) (v:V),X.N[i]?=some x→σ[i]?=some (some v)→Vis X.env.scope x→∃ u,RelV v u∧Look X.env s.heap m x u
 cell:∀ x c,X.env.cells.lookup x=some c→∃ v,s.heap.IsCell c v
 free:H X.env.locals=none
 freeC:∀ x c,X.env.cells.lookup x=some c→H c=none
 pin:∀ p∈X.pn++pins,s.heap.get? p.1=some p.2∧H p.1=none∧p.1≠X.env.locals∧p.1∉X.fs∧∀ v,p.2.data≠.cell v
 hok:HOk X.prog X.w H s.heap
 len:σ.length=X.N.length
section
variable {X:Cx}{pins:List (Addr×Obj)}{σ:List (Option V)}{H H':Hp}{s:Shared}{h':Heap}
theorem Cx.Ok.nofr (ok:X.Ok){b:Addr}{o:Obj} (e:X.base.get? b=some o):b∉X.fs:=fun hb=>by
 have:=(ok.funs.mem hb).1
 rw[e] at this;cases this
theorem Inv.bs (I:Inv X pins σ H s):∀ b o,X.base.get? b=some o→s.heap.get? b=some o∧H b=none:=fun b o e=>
 ⟨I.base.keep b o (I.ok.bs b o e).1 (I.ok.bs b o e).2 (I.ok.nofr e) (I.ok.noex b o e),I.base.free b o (I.ok.bs b o e).1 (I.ok.bs b o e).2 (I.ok.noex b o e)⟩
theorem Inv.bk (I:Inv X pins σ H s):∀ b o,X.base.get? b=some o→s.heap.get? b=some o:=fun b o e=>(I.bs b o e).1
theorem Inv.mod (I:Inv X pins σ H s):Mod X.K X.mg X.base:=I.ok.mod
theorem Inv.kIn (I:Inv X pins σ H s):X.K.In s.heap:=I.ok.mod.kin.keeps I.bk
theorem Inv.lt (I:Inv X pins σ H s):X.env.locals<s.heap.objs.size:=let ⟨_,hn,_⟩:=I.loc;hn.lt
theorem Inv.sz (I:Inv X pins σ H s):X.s₀.heap.objs.size≤s.heap.objs.size:=Nat.le_trans I.ok.above (Nat.le_of_lt I.lt)
theorem Inv.nofs (I:Inv X pins σ H s){a:Addr} (h:s.heap.objs.size≤a):a∉X.fs:=fun hb=>by
 obtain⟨_,o,ho,_⟩:=I.ok.funs.mem hb
 exact absurd (Nat.lt_of_lt_of_le (Heap.lt_size ho) (Nat.le_trans I.sz h)) (Nat.lt_irrefl _)
theorem Inv.cne (I:Inv X pins σ H s):∀ x c,X.env.cells.lookup x=some c→c≠X.env.locals:=fun x c e z=>by
 obtain⟨v,o,ho,hd⟩:=I.cell x c e
 obtain⟨m,⟨o',es,ep,ho',hd',_⟩,_⟩:=I.loc
 rw[z,ho'] at ho;cases ho;rw[hd'] at hd;cases hd
theorem Inv.funs (I:Inv X pins σ H s):s.heap.FunFrames X.base X.outer:=by
 have all:∀ (l:List Env),(∀ b∈frs l,b∈X.fs)→X.s₀.heap.FunFrames X.base l→s.heap.FunFrames X.base l:=by
  intro l
  induction l with
  | nil=>intro _ _;trivial
  | cons env r ih=>
   intro hs hl
   obtain⟨hk,⟨L,o,hf,hn,ho,hd⟩,hr⟩:=hl
   have hL:L∈X.fs:=hs L (by unfold frs;rw[List.filterMap_cons,hf];exact List.mem_cons_self)
   obtain⟨sl,e⟩:=I.base.slot L o ho (I.ok.frf L hL) hL fun z=>I.ok.exfs L z hL
   exact⟨hk,⟨L,_,hf,hn,e,hd⟩,ih (fun b hb=>hs b (by unfold frs;rw[List.filterMap_cons,hf];exact List.mem_cons_of_mem _ hb)) hr⟩
 exact all X.outer (fun _ hb=>hb) I.ok.funs
theorem Inv.stack (I:Inv X pins σ H s):s.heap.FunFrames X.base X.stack:=by
 rcases I.ok.stk with e | ⟨e,hf⟩
 ·rw[e];exact I.funs
 ·rw[e]
  obtain⟨m,hn,_⟩:=I.loc
  refine .cons (by rw[I.ok.kind];decide) hf hn ?_ I.funs
  exact Heap.get?_none_of_le (Nat.le_trans I.ok.bsz I.ok.above)
theorem Inv.stkSub (I:Inv X pins σ H s):∀ b∈frs X.stack,b∈X.env.locals::X.fs:=fun b hb=>by
 rcases I.ok.stk with e | ⟨e,hf⟩
 ·rw[e] at hb;exact List.mem_cons_of_mem _ hb
 ·rw[e] at hb
  unfold frs at hb
  rw[List.filterMap_cons,hf] at hb
  exact hb
theorem Inv.stkFree (I:Inv X pins σ H s):∀ b∈frs X.stack,H b=none:=fun b hb=>by
 rcases List.mem_cons.mp (I.stkSub b hb) with e | hb
 ·rw[e];exact I.free
 ·obtain⟨_,o,ho,_⟩:=I.ok.funs.mem hb
  exact I.base.free b o ho (I.ok.frf b hb) fun z=>I.ok.exfs b z hb
theorem Inv.step {g':Array GenState}{t':Nat}{d':Drawn}{ch:List Addr} (I:Inv X pins σ H s)
  (hch:∀ b∈ch,(b∈X.ex∨X.s₀.heap.objs.size≤b)∧b≠X.env.locals∧(∀ x c,X.env.cells.lookup x=some c→c≠b)∧∀ p∈X.pn++pins,p.1≠b)
  (keep:∀ b o,b≠X.env.locals→b∉X.fs→b∉ch→s.heap.get? b=some o→H b=none→h'.get? b=some o)
  (slot:∀ b o,b≠X.env.locals→b∈X.fs→b∉ch→s.heap.get? b=some o→H b=none→∃ sl,h'.get? b=some { o with slots:=sl }) (free:∀ b o,b∉ch→s.heap.get? b=some o→H b=none→H' b=none)
  (there:∀ b o,b∉ch→s.heap.get? b=some o→∃ o',h'.get? b=some o')
  (tups:∀ b xs,H b=some (.tup xs)→H' b=some (.tup xs)) (frzs:∀ b o u,H b=some (.frz o u)→H' b=some (.frz o u)) (tbls:∀ b ps,H b=some (.tbl ps)→∃ more,H' b=some (.tbl (ps++more)))
  (ns:∀ m,s.heap.Ns X.env.locals m→h'.Ns X.env.locals m) (hok:HOk X.prog X.w H' h') (hg:AllBare g') :
  Inv X pins σ H' { s with heap:=h',gens:=g',drawn:=d',toks:=t' }:=by
 have neL:∀ b o,X.s₀.heap.get? b=some o→b≠X.env.locals:=fun b o e=>Nat.ne_of_lt (Nat.lt_of_lt_of_le (Heap.lt_size e) I.ok.above)
 have neC:∀ b o,X.s₀.heap.get? b=some o→b∉X.ex→b∉ch:=fun b o e hx hb=>by
  rcases (hch b hb).1 with z | z
  ·exact hx z
  ·exact absurd (Nat.lt_of_lt_of_le (Heap.lt_size e) z) (Nat.lt_irrefl _)
 have cellK:∀ x c,X.env.cells.lookup x=some c→∀ v,s.heap.IsCell c v→h'.IsCell c v:=fun x c e v ⟨o,ho,hd⟩=>by
  have nch:c∉ch:=fun z=>(hch c z).2.2.1 x c e rfl
  by_cases hc:c∈X.fs
  ·obtain⟨sl,q⟩:=slot c o (I.cne x c e) hc nch ho (I.freeC x c e)
   exact⟨_,q,hd⟩
  ·exact⟨o,keep c o (I.cne x c e) hc nch ho (I.freeC x c e),hd⟩
 refine⟨I.ok,I.os,hg,⟨fun b o e n hb hx=>?_,fun b o e n hb hx=>?_,fun b o e n hx=>?_,fun b o e hx=>?_,fun b xs e=>tups b xs (I.base.tups b xs e),fun b o xs e=>frzs b o xs (I.base.frzs b o xs e),fun b ps e=>?_⟩,?_,fun x c e=>?_,?_,fun x c e=>?_,fun p hp=>?_,hok,I.len⟩
 ·exact keep b o (neL b o e) hb (neC b o e hx) (I.base.keep b o e n hb hx) (I.base.free b o e n hx)
 ·obtain⟨sl,e1⟩:=I.base.slot b o e n hb hx
  obtain⟨sl',e2⟩:=slot b _ (neL b o e) hb (neC b o e hx) e1 (I.base.free b o e n hx)
  exact⟨sl',e2⟩
 ·obtain⟨o',e1⟩:=I.base.there b o e hx
  exact free b o' (neC b o e hx) e1 (I.base.free b o e n hx)
 ·obtain⟨o',e1⟩:=I.base.there b o e hx
  exact there b o' (neC b o e hx) e1
 ·obtain⟨m1,e1⟩:=I.base.tbls b ps e
  obtain⟨m2,e2⟩:=tbls b _ e1
  exact⟨m1++m2,by rw[e2,Array.append_assoc]⟩
 ·obtain⟨m,hn,hl⟩:=I.loc
  refine⟨m,ns m hn,fun i x v e1 e2 e3=>?_⟩
  obtain⟨u,r,l⟩:=hl i x v e1 e2 e3
  refine⟨u,r,?_⟩
  rcases l with l | ⟨k,c,e,z⟩
  ·exact .inl l
  ·exact .inr ⟨k,c,e,cellK x c e _ z⟩
 ·obtain⟨v,z⟩:=I.cell x c e
  exact⟨v,cellK x c e v z⟩
 ·obtain⟨m,⟨o,_,_,ho,_⟩,_⟩:=I.loc
  exact free _ o (fun z=>(hch _ z).2.1 rfl) ho I.free
 ·obtain⟨v,o,ho,hd⟩:=I.cell x c e
  exact free c o (fun z=>(hch c z).2.2.1 x c e rfl) ho (I.freeC x c e)
 ·obtain⟨e,n,ne,nf,d⟩:=I.pin p hp
  have nch:p.1∉ch:=fun z=>(hch p.1 z).2.2.2 p hp rfl
  exact⟨keep p.1 p.2 ne nf nch e n,free p.1 p.2 nch e n,ne,nf,d⟩
theorem Inv.un {t':Nat} (I:Inv X pins σ H s) (u:Un X.fs [] H H' s.heap h') (hok:HOk X.prog X.w H' h'):Inv X pins σ H' { s with heap:=h',toks:=t' }:=by
 obtain⟨m,⟨o,es,ep,ho,r⟩,_⟩:=id I.loc
 obtain⟨sl,hL⟩:=u.any ho I.free (by simp)
 exact I.step (g':=s.gens) (d':=s.drawn) (ch:=[]) (fun _ z=>nomatch z) (fun b o _ hb _ e n=>u.keep b o e n hb (by simp)) (fun b o _ hb _ e n=>u.slot b o e n hb (by simp)) (fun b o _ e n=>u.free b o e n (by simp)) (fun b o _ e=>u.there b o e (by simp)) u.tups u.frzs u.tbls (fun m' hm=>by
  obtain⟨o',es',ep',ho',r'⟩:=hm
  rw[ho] at ho';cases ho'
  exact⟨_,es',ep',hL,r'⟩) hok I.bare
theorem Inv.call {g':Array GenState}{t':Nat}{d':Drawn}{ch:List Addr} (I:Inv X pins σ H s) (u:Un (frs X.stack) ch H H' s.heap h') (hok:HOk X.prog X.w H' h') (hg:AllBare g')
  (hch:∀ b∈ch,(b∈X.ex∨X.s₀.heap.objs.size≤b)∧b≠X.env.locals∧(∀ x c,X.env.cells.lookup x=some c→c≠b)∧∀ p∈X.pn++pins,p.1≠b) :
  Inv X pins σ H' { s with heap:=h',gens:=g',drawn:=d',toks:=t' }:=by
 obtain⟨m,⟨o,es,ep,ho,r⟩,_⟩:=id I.loc
 obtain⟨sl,hL⟩:=u.any ho I.free fun z=>(hch _ z).2.1 rfl
 exact I.step (ch:=ch) hch (fun b o hL hb hc e n=>u.keep b o e n (fun z=>(List.mem_cons.mp (I.stkSub b z)).elim hL hb) hc) (fun b o _ _ hc e n=>u.any e n hc) (fun b o hc e n=>u.free b o e n hc) (fun b o hc e=>u.there b o e hc) u.tups u.frzs u.tbls (fun m' hm=>by
  obtain⟨o',es',ep',ho',r'⟩:=hm
  rw[ho] at ho';cases ho'
  exact⟨_,es',ep',hL,r'⟩) hok hg
theorem Inv.turned {t':Nat}{it:Addr} (I:Inv X pins σ H s) (k:∀ b o,b≠it→s.heap.get? b=some o→h'.get? b=some o) (hn:H it=none) (hL:it≠X.env.locals)
  (h1:it∈X.ex∨X.s₀.heap.objs.size≤it) (h2:∀ x c,X.env.cells.lookup x=some c→c≠it) (h3:∀ p∈X.pn++pins,p.1≠it):Inv X pins σ H { s with heap:=h',toks:=t' }:=by
 have nit:∀ b u,H b=some u→b≠it:=fun b u e z=>by rw[z,hn] at e;cases e
 refine I.step (g':=s.gens) (d':=s.drawn) (ch:=[it]) (fun b hb=>?_) (fun b o _ _ hc e _=>k b o (fun z=>hc (by simp [z])) e) (fun b o _ _ hc e _=>⟨o.slots,k b o (fun z=>hc (by simp [z])) e⟩) (fun _ _ _ _ n=>n)
  (fun b o hc e=>⟨o,k b o (fun z=>hc (by simp [z])) e⟩) (fun _ _ e=>e) (fun _ _ _ e=>e) (fun b ps e=>⟨#[],by rw[e];simp⟩) (fun m hm=>?_) (fun b u e=>?_) I.bare
 ·have e:b=it:=by simpa using hb
  subst e
  exact⟨h1,hL,h2,h3⟩
 ·obtain⟨o,es,ep,ho,r⟩:=hm
  exact⟨o,es,ep,k _ o (Ne.symm hL) ho,r⟩
 ·refine(I.hok b u e).stay (fun c v hc q=>k c v ?_ q) (fun _ q=>q) fun _ _ q=>q
  rcases hc with z | z
  ·rw[z];exact nit b u e
  ·exact nit c _ z
theorem Inv.tok (I:Inv X pins σ H s) (t:Nat):Inv X pins σ H { s with toks:=t }:=I.un (h':=s.heap) (t':=t) Un.refl I.hok
theorem Inv.kept {t':Nat} (I:Inv X pins σ H s) (k:∀ b u,s.heap.get? b=some u→h'.get? b=some u):Inv X pins σ H { s with heap:=h',toks:=t' }:=I.un (Un.kept k) (I.hok.kept k)
theorem Inv.laid {a:Addr}{o:HO}{t':Nat} (I:Inv X pins σ H s) (k:∀ b u,s.heap.get? b=some u→h'.get? b=some u) (hp:s.heap.objs.size≤a) (new:ObjOk X.prog X.w (upd H a o) h' a o) :
  Inv X pins σ (upd H a o) { s with heap:=h',toks:=t' }:=I.un (Un.laid k hp (I.hok.fresh hp)) (I.hok.laid k hp new)
theorem Inv.write {x e:Addr}{o:HO}{t':Nat} (I:Inv X pins σ H s) (mu:Mut (H x)) (he:e=x∨H e=some (.own x)) (k:∀ b u,b≠e→s.heap.get? b=some u→h'.get? b=some u) (heo:∃ u,h'.get? e=some u)
  (new:ObjOk X.prog X.w (upd H x o) h' x o):Inv X pins σ (upd H x o) { s with heap:=h',toks:=t' }:=I.un (Un.write mu he k heo) (I.hok.write mu he k heo new)
theorem Inv.pins_of {pins':List (Addr×Obj)} (I:Inv X pins σ H s) (h:∀ p∈pins',s.heap.get? p.1=some p.2∧H p.1=none∧p.1≠X.env.locals∧p.1∉X.fs∧∀ v,p.2.data≠.cell v):Inv X pins' σ H s:=
 ⟨I.ok,I.os,I.bare,I.base,I.loc,I.cell,I.free,I.freeC,fun p hp=>(List.mem_append.mp hp).elim (fun z=>I.pin p (List.mem_append_left _ z)) (h p),I.hok,I.len⟩
theorem zdE {N:List Str} (hN:N.Nodup){i j:Nat}{x:Str} (a:N[i]?=some x) (b:N[j]?=some x):i=j:=by
 obtain⟨h1,e1⟩:=List.getElem?_eq_some_iff.mp a
 obtain⟨h2,e2⟩:=List.getElem?_eq_some_iff.mp b
 exact(List.getElem_inj hN).mp (e1.trans e2.symm)
theorem store_ok2 {M:Model}{A:Around}{E:Value→Shared→Prop}{i:Nat}{x:Str}{v:V}{u:Value}{Q:Unit→Shared→Prop} (I:Inv X pins σ H s) (hN:X.N.Nodup) (hi:X.N[i]?=some x) (hx:Loc X.env.scope x) (r:RelV v u)
  (h:∀ s',Inv X pins (σ.set i (some v)) H s'→(∃ a,Heap.SameBut a s.heap s'.heap∧(a=X.env.locals∨X.env.cells.lookup x=some a))→Q () s') (hf:X.fn x=true∨X.env.scope.names.lookup x=some .local:=by first | exact .inl rfl | exact .inr rfl | assumption):wpAny M A (storeName X.env x u) Q E s:=by
 obtain⟨m,hn,hl⟩:=id I.loc
 have hcls:(X.env.scope.kind==.class||(X.env.scope.kind==.module&&X.env.locals != X.env.globals))=false:=by rw[I.ok.kind];rfl
 have hiσ:i<σ.length:=by rw[I.len];exact(List.getElem?_eq_some_iff.mp hi).1
 have cne:=I.cne
 have tracked:∀ {a:Addr}{h':Heap},(∃ o,s.heap.get? a=some o∧H a=none)→Heap.SameBut a s.heap h'→HOk X.prog X.w H h':=fun {a h'} ha hs b ob e=>by
  obtain⟨_,_,hfree⟩:=ha
  refine(I.hok b ob e).stay (fun c w' hc q=>(hs.2 c ?_).trans q) (fun _ q=>q) fun _ _ q=>q
  rintro rfl
  rcases hc with rfl | hc
  ·rw[hfree] at e;cases e
  ·rw[hfree] at hc;cases hc
 rcases hx with hk | hk
 ·refine wpAny_storeName_local hk hn (fun h' hn' hs=>?_) hcls
  obtain⟨oL,_,_,hoL,_⟩:=id hn
  refine h _ ⟨I.ok,I.os,I.bare,⟨fun b o e n hb hx=>?_,fun b o e n hb hx=>?_,I.base.free,fun b o e hx=>?_,I.base.tups,I.base.frzs,I.base.tbls⟩,⟨_,hn',fun j y v' e1 e2 e3=>?_⟩,fun y c e=>?_,I.free,I.freeC,fun p hp=>?_,tracked ⟨oL,hoL,I.free⟩ hs,by simpa using I.len⟩ ⟨_,hs,.inl rfl⟩
  ·exact(hs.2 b (Nat.ne_of_lt (Nat.lt_of_lt_of_le (Heap.lt_size e) I.ok.above))).trans (I.base.keep b o e n hb hx)
  ·obtain⟨sl,e1⟩:=I.base.slot b o e n hb hx
   exact⟨sl,(hs.2 b (Nat.ne_of_lt (Nat.lt_of_lt_of_le (Heap.lt_size e) I.ok.above))).trans e1⟩
  ·obtain⟨o',e1⟩:=I.base.there b o e hx
   exact⟨o',(hs.2 b (Nat.ne_of_lt (Nat.lt_of_lt_of_le (Heap.lt_size e) I.ok.above))).trans e1⟩
  ·by_cases hj:j=i
   ·subst hj
    rw[hi] at e1;cases e1
    rw[List.getElem?_set_self hiσ] at e2
    cases e2
    exact⟨u,r,.inl ⟨hk,by simp⟩⟩
   ·rw[List.getElem?_set_ne (Ne.symm hj)] at e2
    obtain⟨u',r',q⟩:=hl j y v' e1 e2 e3
    refine⟨u',r',?_⟩
    rcases q with ⟨k,e⟩ | ⟨k,c,e,z⟩
    ·refine .inl ⟨k,?_⟩
     have:y≠x:=fun e=>hj (zdE hN e1 (e▸hi))
     simp [this,e]
    ·exact .inr ⟨k,c,e,z.sameBut hs (cne y c e)⟩
  ·obtain⟨w',z⟩:=I.cell y c e
   exact⟨w',z.sameBut hs (cne y c e)⟩
  ·obtain⟨e,n,ne,nf,d⟩:=I.pin p hp
   exact⟨(hs.2 p.1 ne).trans e,n,ne,nf,d⟩
 ·have hfn:X.fn x=true:=by
   rcases hf with z | z
   ·exact z
   ·rw[z] at hk;cases hk
  obtain⟨c,hc⟩:=I.ok.has x (.inl hk)
  obtain⟨w',z⟩:=I.cell x c hc
  refine wpAny_storeName_cell I.ok.kind hk hc z (fun h' hc' hs=>?_)
  obtain⟨oc,hoc,hocd⟩:=id z
  refine h { s with heap:=h' } ⟨I.ok,I.os,I.bare,⟨fun b o e n hb hx=>?_,fun b o e n hb hx=>?_,I.base.free,fun b o e hx=>?_,I.base.tups,I.base.frzs,I.base.tbls⟩,⟨m,hn.sameBut hs (Ne.symm (cne x c hc)),fun j y v' e1 e2 e3=>?_⟩,fun y c' e=>?_,I.free,I.freeC,fun p hp=>?_,tracked ⟨oc,hoc,I.freeC x c hc⟩ hs,by simpa using I.len⟩ ⟨c,hs,.inr hc⟩
  ·exact(hs.2 b (Nat.ne_of_lt (Nat.lt_of_lt_of_le (Heap.lt_size e) (I.ok.cab x c hfn hc)))).trans (I.base.keep b o e n hb hx)
  ·obtain⟨sl,e1⟩:=I.base.slot b o e n hb hx
   exact⟨sl,(hs.2 b (Nat.ne_of_lt (Nat.lt_of_lt_of_le (Heap.lt_size e) (I.ok.cab x c hfn hc)))).trans e1⟩
  ·obtain⟨o',e1⟩:=I.base.there b o e hx
   exact⟨o',(hs.2 b (Nat.ne_of_lt (Nat.lt_of_lt_of_le (Heap.lt_size e) (I.ok.cab x c hfn hc)))).trans e1⟩
  ·by_cases hj:j=i
   ·subst hj
    rw[hi] at e1;cases e1
    rw[List.getElem?_set_self hiσ] at e2
    cases e2
    exact⟨u,r,.inr ⟨.inl hk,c,hc,hc'⟩⟩
   ·rw[List.getElem?_set_ne (Ne.symm hj)] at e2
    obtain⟨u',r',q⟩:=hl j y v' e1 e2 e3
    refine⟨u',r',?_⟩
    rcases q with q | ⟨k,c',e,z'⟩
    ·exact .inl q
    ·refine .inr ⟨k,c',e,z'.sameBut hs ?_⟩
     rintro rfl
     exact hj (zdE hN e1 (I.ok.inj _ _ _ e hc▸hi))
  ·by_cases hcc:c'=c
   ·subst hcc;exact⟨_,hc'⟩
   ·obtain⟨w2,z2⟩:=I.cell y c' e
    exact⟨w2,z2.sameBut hs hcc⟩
  ·obtain⟨e,n,ne,nf,d⟩:=I.pin p hp
   refine⟨(hs.2 p.1 ?_).trans e,n,ne,nf,d⟩
   intro q
   rw[q,hoc] at e
   have q':oc=p.2:=Option.some.inj e
   exact d w' (by rw[← q'];exact hocd)
theorem zdl {M:Model}{A:Around}{E:Value→Shared→Prop}{i:Nat}{x:Str}{v:V}{u:Value}{Q:Unit→Shared→Prop} (I:Inv X pins σ H s) (hN:X.N.Nodup) (hi:X.N[i]?=some x) (hx:Loc X.env.scope x) (r:RelV v u)
  (h:∀ s',Inv X pins (σ.set i (some v)) H s'→Q () s') (hf:X.fn x=true∨X.env.scope.names.lookup x=some .local:=by first | exact .inl rfl | exact .inr rfl | assumption):wpAny M A (storeName X.env x u) Q E s:=
 store_ok2 I hN hi hx r (fun s' I' _=>h s' I') hf
theorem Inv.call' {s':Shared}{ch:List Addr} (I:Inv X pins σ H s) (ho:s'.os=s.os) (u:Un (frs X.stack) ch H H' s.heap s'.heap) (hok:HOk X.prog X.w H' s'.heap) (hg:AllBare s'.gens)
  (hch:∀ b∈ch,(b∈X.ex∨X.s₀.heap.objs.size≤b)∧b≠X.env.locals∧(∀ x c,X.env.cells.lookup x=some c→c≠b)∧∀ p∈X.pn++pins,p.1≠b):Inv X pins σ H' s':=by
 obtain⟨h',g',d',t',o'⟩:=s'
 have e:o'=s.os:=ho
 subst e
 exact I.call (g':=g') (t':=t') (d':=d') u hok hg hch
end
abbrev XK:=Value→Option Addr→Hp→Prop
abbrev St:=List (Option V)
abbrev VK:=V→Hp→Prop
abbrev TE:=St→Hp→VK→Prop
abbrev TT:=St→Hp→(Bool→Hp→Prop)→Prop
abbrev TA:=St→Hp→(List V→Hp→Prop)→Prop
structure Ends where
 nx:St→Hp→Prop
 rt:VK
 bk:St→Hp→Prop:=fun _ _=>False
 ct:St→Hp→Prop:=fun _ _=>False
abbrev TS:=Ends→St→Hp→Prop
def EP (X:Cx) (pins:List (Addr×Obj)) (σ:St) (Q:VK) (u:Value) (s':Shared):Prop:=∃ v H',Inv X pins σ H' s'∧RelV v u∧Q v H'
def TP (X:Cx) (pins:List (Addr×Obj)) (σ:St) (Q:Bool→Hp→Prop) (b:Bool) (s':Shared):Prop:=∃ H',Inv X pins σ H' s'∧Q b H'
def AP (X:Cx) (pins:List (Addr×Obj)) (σ:St) (Q:List V→Hp→Prop) (us:List Value) (s':Shared):Prop:=∃ vs H',Inv X pins σ H' s'∧Vals vs us∧Q vs H'
def SP (X:Cx) (pins:List (Addr×Obj)) (D:Ends) (f:Flow) (s':Shared):Prop:=
 match f with
 | .next=>∃ σ' H',Inv X pins σ' H' s'∧D.nx σ' H'
 | .brk=>∃ σ' H',Inv X pins σ' H' s'∧D.bk σ' H'
 | .cont=>∃ σ' H',Inv X pins σ' H' s'∧D.ct σ' H'
 | .ret u=>∃ v σ' H',Inv X pins σ' H' s'∧RelV v u∧D.rt v H'
def PE (X:Cx) (e:Expr) (t:TE):Prop:=
 ∀ (pins:List (Addr×Obj)) (s:Shared) (σ:St) (H:Hp) (Q:VK),Inv X pins σ H s→t σ H Q→wpAny (model X.prog X.w) X.A (eval e X.env) (EP X pins σ Q) X.xe s
def PT (X:Cx) (e:Expr) (t:TT):Prop:=
 ∀ (pins:List (Addr×Obj)) (s:Shared) (σ:St) (H:Hp) (Q:Bool→Hp→Prop),Inv X pins σ H s→t σ H Q→wpAny (model X.prog X.w) X.A (isTrue e X.env (eval e X.env)) (TP X pins σ Q) X.xe s
def PW (X:Cx) (e:Expr) (t:TT):Prop:=
 ∀ (whole:Sem Value) (pins:List (Addr×Obj)) (s:Shared) (σ:St) (H:Hp) (Q:Bool→Hp→Prop),Inv X pins σ H s→t σ H Q→wpAny (model X.prog X.w) X.A (isTrue e X.env whole) (TP X pins σ Q) X.xe s
theorem PW.pt {X:Cx}{e:Expr}{t:TT} (h:PW X e t):PT X e t:=h _
def PA (X:Cx) (es:List Expr) (t:TA):Prop:=
 ∀ (pos:Pos) (pins:List (Addr×Obj)) (s:Shared) (σ:St) (H:Hp) (Q:List V→Hp→Prop),Inv X pins σ H s→t σ H Q→wpAny (model X.prog X.w) X.A (spliced (backTo pos (starEach es X.env))) (AP X pins σ Q) X.xe s
def PS (X:Cx) (st:Stmt) (t:TS):Prop:=
 ∀ (pins:List (Addr×Obj)) (s:Shared) (σ:St) (H:Hp) (D:Ends),Inv X pins σ H s→t D σ H→wpAny (model X.prog X.w) X.A (exec st X.env) (SP X pins D) X.xe s
def PSs (X:Cx) (st:List Stmt) (t:TS):Prop:=
 ∀ (pins:List (Addr×Obj)) (s:Shared) (σ:St) (H:Hp) (D:Ends),Inv X pins σ H s→t D σ H→wpAny (model X.prog X.w) X.A (execs st X.env) (SP X pins D) X.xe s
theorem thn {α:Type}{t:Sem α}{Q Q':α→Shared→Prop}{M:Model}{A:Around}{E:Value→Shared→Prop}{s:Shared} (h:wpAny M A t Q E s) (hQ:∀ a s,Q a s→Q' a s):wpAny M A t Q' E s:=wpAny_mono h hQ fun _ _ x=>x
end L2
namespace L2
open PySem PySem.Spec PyProof.Rows
section
variable {X:Cx}
theorem bin {a b:Expr}{ta tb:TE} (ha:PE X a ta) (hb:PE X b tb){pins:List (Addr×Obj)}{s:Shared}{σ:St}{H:Hp}{R:V→V→Hp→Prop} (I:Inv X pins σ H s) (h:ta σ H fun x H1=>tb σ H1 fun y H2=>R x y H2)
  {α:Type}{Q:α→Shared→Prop}{f:Value→Value→Sem α}
  (hf:∀ v u s2 x y H2,Inv X pins σ H2 s2→RelV x v→RelV y u→R x y H2→wpAny (model X.prog X.w) X.A (f v u) Q X.xe s2) :
  wpAny (model X.prog X.w) X.A (eval a X.env) (fun v s₁=>wpAny (model X.prog X.w) X.A (eval b X.env) (fun u s₂=>wpAny (model X.prog X.w) X.A (f v u) Q X.xe s₂) X.xe s₁) X.xe s:=by
 refine thn (ha pins s σ H _ I h) fun v s1 ⟨x,H1,I1,r1,q1⟩=>?_
 refine thn (hb pins s1 σ H1 _ I1 q1) fun u s2 ⟨y,H2,I2,r2,q2⟩=>?_
 exact hf v u s2 x y H2 I2 r1 r2 q2
def tVar (i:Nat):TE:=fun σ H Q=>∃ v,σ[i]?=some (some v)∧Q v H
def tC (v:V):TE:=fun _ H Q=>Q v H
theorem zat {i:Nat}{x:Str}{pos:Pos} (hN:X.N[i]?=some x) (hv:Vis X.env.scope x) (hd:(x==("__debug__":Str))=false:=by decide) (hcd:(x==("__classdict__":Str))=false:=by decide):PE X (.Name x pos) (tVar i):=by
 intro pins s σ H Q I h
 obtain⟨v,e,h⟩:=h
 obtain⟨m,hn,hl⟩:=I.loc
 obtain⟨u,r,l⟩:=hl i x v hN e hv
 have fin:EP X pins σ Q u s:=⟨v,H,I,r,h⟩
 rcases l with ⟨hk,hm⟩ | ⟨hk,c,hc,hcell⟩
 ·exact wpAny_Name (wpAny_loadName_local I.ok.kind hk hn hm fin) hd
 ·rcases hk with hk | hk
  ·exact wpAny_Name (wpAny_loadName_cell I.ok.kind hk hc hcell fin) hd
  ·exact wpAny_Name (wpAny_loadName_free I.ok.kind hk hc hcell fin hcd) hd
theorem zau {i j pos}:PE X (.Constant (.int i) j pos) (tC (.int i)):=fun _ _ _ H _ I h=>wpAny_Constant_int ⟨.int i,H,I.tok _,⟨_,rfl⟩,h⟩
theorem pe_bl {b j pos}:PE X (.Constant (.bool b) j pos) (tC (.bl b)):=fun _ _ _ H _ I h=>Constant_bool ⟨.bl b,H,I,rfl,h⟩
theorem zfB {j pos}:PE X (.Constant .none j pos) (tC .non):=fun _ _ _ H _ I h=>Constant_none ⟨.non,H,I,rfl,h⟩
theorem zaq {x j pos}:PE X (.Constant (.str x) j pos) (tC (.str x)):=fun _ _ _ H _ I h=>Calls.Constant_str ⟨.str x,H,I.tok _,⟨_,rfl⟩,h⟩
def Gl (X:Cx) (x:Str):Prop:=X.env.kindOf x=some .globalImplicit
theorem zbT {E:Value→Shared→Prop}{pins:List (Addr×Obj)}{s:Shared}{σ:St}{H:Hp}{x:Str}{u:Value}{pos:Pos}{Q:Value→Shared→Prop} (I:Inv X pins σ H s) (hg:Gl X x) (hm:X.mg x=some u) (h:Q u s)
  (hd:(x==("__debug__":Str))=false:=by decide):wpAny (model X.prog X.w) X.A (eval (.Name x pos) X.env) Q E s:=
 Calls.Name_function_global I.ok.kind hg (Calls.loadGlobal_global (by rw[I.ok.glob];exact I.mod.glob.keeps I.bk) hm h) hd
theorem zes {E:Value→Shared→Prop}{pins:List (Addr×Obj)}{s:Shared}{σ:St}{H:Hp}{x:Str}{u:Value}{pos:Pos}{Q:Value→Shared→Prop} (I:Inv X pins σ H s) (hg:Gl X x) (hm:X.mg x=none) (hv:bootBuiltins x=some u) (h:Q u s)
  (hn:x≠"__name__":=by decide) (hd:(x==("__debug__":Str))=false:=by decide):wpAny (model X.prog X.w) X.A (eval (.Name x pos) X.env) Q E s:=by
 obtain⟨mb,h1,h2⟩:=I.mod.blt
 exact Calls.Name_function_global I.ok.kind hg (Calls.loadGlobal_builtin (by rw[I.ok.glob];exact I.mod.glob.keeps I.bk) hm (by rw[I.ok.blt];exact h1.keeps I.bk) ((h2 x hn).trans hv) h) hd
theorem zaC {x:Str}{v:V}{u:Value}{pos:Pos} (hg:Gl X x) (hm:X.mg x=some u) (r:RelV v u) (hd:(x==("__debug__":Str))=false:=by decide):PE X (.Name x pos) (tC v):=
 fun _ _ _ H _ I h=>zbT I hg hm ⟨v,H,I,r,h⟩ hd
theorem pe_bltn {x:Str}{v:V}{u:Value}{pos:Pos} (hg:Gl X x) (hm:X.mg x=none) (hv:bootBuiltins x=some u) (r:RelV v u) (hn:x≠"__name__":=by decide) (hd:(x==("__debug__":Str))=false:=by decide):PE X (.Name x pos) (tC v):=
 fun _ _ _ H _ I h=>zes I hg hm hv ⟨v,H,I,r,h⟩ hn hd
variable {a b:Expr}{ta tb:TE}{pos:Pos}
def PC (X:Cx) (op:CmpOp) (a b:Expr) (t:TE):Prop:=
 ∀ (pins:List (Addr×Obj)) (s:Shared) (σ:St) (H:Hp) (Q:VK),Inv X pins σ H s→t σ H Q →
  wpAny (model X.prog X.w) X.A (eval a X.env) (fun v s₁=>wpAny (model X.prog X.w) X.A (eval b X.env) (fun u s₂=>wpAny (model X.prog X.w) X.A (compareOp op v u) (EP X pins σ Q) X.xe s₂) X.xe s₁) X.xe s
theorem nobehind (b:Expr){op:CmpOp} (h:op≠.In) (h2:op≠.NotIn):behindInMarks op b=false:=by
 have e1:(op==CmpOp.In)=false:=by cases op<;>first | rfl | exact absurd rfl h
 have e2:(op==CmpOp.NotIn)=false:=by cases op<;>first | rfl | exact absurd rfl h2
 cases b<;>simp [behindInMarks,e1,e2]
def tB (t:TE):TT:=fun σ H Q=>t σ H fun x H1=>∃ c,x=.bl c∧Q c H1
theorem pt_cmp {op:CmpOp}{t:TE} (h:PC X op a b t) (h1:behindInMarks op b=false:=by first | exact nobehind _ (by decide) (by decide) | rfl):PT X (.Compare a [op] [b] pos) (tB t):=by
 intro pins s σ H Q I hw
 refine wpAny_isTrue_Compare1 (thn (h pins s σ H _ I hw) fun v s1 h1=>thn h1 fun u s2 h2=>thn h2 fun c s3 ⟨x,H1,I1,r1,q1⟩=>?_) h1
 obtain⟨d,rfl,q⟩:=q1
 cases r1
 exact wpAny_truthy_bool ⟨H1,I1,q⟩
theorem pt_val {e:Expr}{t:TE} (h:PE X e t) (he:∀ whole,isTrue e X.env whole=(do let v ← whole;standAt e.pos;holding [v] (truthy v)):=by intro _;rfl):PT X e (tB t):=by
 intro pins s σ H Q I hw
 refine isTrue_plain (thn (h pins s σ H _ I hw) fun v s1 ⟨x,H1,I1,r1,q1⟩=>?_) (he _)
 obtain⟨d,rfl,q⟩:=q1
 cases r1
 exact wpAny_truthy_bool ⟨H1,I1,q⟩
variable {tA tB':TT}{rest:List Expr}
def tAnd (t u:TT):TT:=fun σ H Q=>t σ H fun c H1=>if c=true then u σ H1 Q else Q false H1
def tOr (t u:TT):TT:=fun σ H Q=>t σ H fun c H1=>if c=true then Q true H1 else u σ H1 Q
def tNot (t:TT):TT:=fun σ H Q=>t σ H fun c H1=>Q (!c) H1
theorem pw_and1 (ha:PT X a tA):PW X (.BoolOp .And [a] pos) tA:=by
 intro wh pins s σ H Q I h
 refine isTrue_and (thn (ha pins s σ H Q I h) fun c s1 e=>?_)
 cases c with
 | true=>exact isTrue_and_nil e
 | false=>exact e
theorem pw_or1 (ha:PT X a tA):PW X (.BoolOp .Or [a] pos) tA:=by
 intro wh pins s σ H Q I h
 refine isTrue_or (thn (ha pins s σ H Q I h) fun c s1 e=>?_)
 cases c with
 | false=>exact isTrue_or_nil e
 | true=>exact e
theorem pw_and (ha:PT X a tA) (hb:PW X (.BoolOp .And (b::rest) pos) tB'):PW X (.BoolOp .And (a::b::rest) pos) (tAnd tA tB'):=by
 intro wh pins s σ H Q I h
 refine isTrue_and (thn (ha pins s σ H _ I h) fun c s1 ⟨H1,I1,q1⟩=>?_)
 cases c with
 | true=>exact hb wh pins s1 σ H1 Q I1 q1
 | false=>exact⟨H1,I1,q1⟩
theorem pw_or (ha:PT X a tA) (hb:PW X (.BoolOp .Or (b::rest) pos) tB'):PW X (.BoolOp .Or (a::b::rest) pos) (tOr tA tB'):=by
 intro wh pins s σ H Q I h
 refine isTrue_or (thn (ha pins s σ H _ I h) fun c s1 ⟨H1,I1,q1⟩=>?_)
 cases c with
 | true=>exact⟨H1,I1,q1⟩
 | false=>exact hb wh pins s1 σ H1 Q I1 q1
theorem pt_not (ha:PT X a tA):PT X (.UnaryOp .Not a pos) (tNot tA):=by
 intro pins s σ H Q I h
 exact isTrue_not (ha pins s σ H (fun c H1=>Q (!c) H1) I h)
def tAndV (ta tb:TE):TE:=fun σ H Q=>ta σ H fun x H1=>∃ c,x=.bl c∧if c=true then tb σ H1 Q else Q (.bl false) H1
def tNotV (ta:TE):TE:=fun σ H Q=>ta σ H fun x H1=>∃ c,x=.bl c∧Q (.bl (!c)) H1
theorem pe_one {op}{t:TE} (h:PE X a t):PE X (.BoolOp op [a] pos) t:=fun pins s σ H Q I hw=>BoolOp_one (h pins s σ H Q I hw)
theorem pe_and (ha:PE X a ta) (hb:PE X (.BoolOp .And (b::rest) pos) tb):PE X (.BoolOp .And (a::b::rest) pos) (tAndV ta tb):=by
 intro pins s σ H Q I h
 refine BoolOp_and (thn (ha pins s σ H _ I h) fun v s1 ⟨x,H1,I1,r1,q1⟩=>?_)
 obtain⟨c,rfl,q1⟩:=q1
 cases r1
 refine wpAny_truthy_bool ?_
 cases c with
 | true=>exact hb pins s1 σ H1 Q I1 q1
 | false=>exact⟨.bl false,H1,I1,rfl,q1⟩
theorem pe_not (ha:PE X a ta):PE X (.UnaryOp .Not a pos) (tNotV ta):=by
 intro pins s σ H Q I h
 refine UnaryOp_ (thn (ha pins s σ H _ I h) fun v s1 ⟨x,H1,I1,r1,q1⟩=>?_)
 obtain⟨c,rfl,q1⟩:=q1
 cases r1
 exact not_of (wpAny_truthy_bool ⟨.bl (!c),H1,I1,rfl,q1⟩)
def tIf (t:TT) (ta tb:TE):TE:=fun σ H Q=>t σ H fun c H1=>if c=true then ta σ H1 Q else tb σ H1 Q
theorem zfD {c:Expr} (hc:PT X c tA) (ha:PE X a ta) (hb:PE X b tb):PE X (.IfExp c a b pos) (tIf tA ta tb):=by
 intro pins s σ H Q I h
 refine wpAny_IfExp (thn (hc pins s σ H _ I h) fun d s1 ⟨H1,I1,q1⟩=>?_)
 cases d with
 | true=>exact ha pins s1 σ H1 Q I1 q1
 | false=>exact hb pins s1 σ H1 Q I1 q1
end
end L2
namespace L2
open PySem PySem.Spec PyProof.Rows
def SqL (K:PySem.W.Frag) (H:Hp) (a:Addr) (xs:List V):Prop:=
 Rd H a (.lst xs) ∨
  ∃ (o:Obj) (its:Array Value) (n:Nat),K.lookup a=some o∧o.cls=.type "list"∧o.dict=none∧o.data=.seq its n∧its.size≤sizeLine∧Vals xs its.toList
def SqT (K:PySem.W.Frag) (H:Hp) (a:Addr) (xs:List V):Prop:=
 Rd H a (.tup xs) ∨
  ∃ (o:Obj) (its:Array Value) (n:Nat),K.lookup a=some o∧o.cls=.type "tuple"∧o.data=.seq its n∧its.size≤sizeLine∧Vals xs its.toList
def absV:Value→Option V
 | .none=>some .non
 | .bool b=>some (.bl b)
 | .int i _=>some (.int i)
 | .str x _=>some (.str x)
 | .bytes b _=>some (.byt b)
 | .float b _=>some (.flt b)
 | .ref a=>some (.ref a)
 | .type n=>some (.ty n)
 | _=>none
theorem RelV.abs {x:V}{u:Value} (r:RelV x u):absV u=some x:=by
 cases x with
 | non=>cases r;rfl
 | bl _=>cases r;rfl
 | int _=>obtain⟨t,rfl⟩:=r;rfl
 | str _=>obtain⟨t,rfl⟩:=r;rfl
 | byt _=>obtain⟨t,rfl⟩:=r;rfl
 | flt _=>obtain⟨t,rfl⟩:=r;rfl
 | ref _=>cases r;rfl
 | ty _=>cases r;rfl
theorem RelV.inj {x y:V}{u:Value} (r:RelV x u) (q:RelV y u):x=y:=Option.some.inj (r.abs.symm.trans q.abs)
theorem Vals.inj:∀ {xs ys:List V}{us:List Value},Vals xs us→Vals ys us→xs=ys
 | _,_,_,.nil,.nil=>rfl
 | _,_,_,.cons r t,.cons r' t'=>by rw[r.inj r',Vals.inj t t']
section
variable {X:Cx}{pins:List (Addr×Obj)}{σ:St}{H:Hp}{s:Shared}{a:Addr}{xs ys:List V}
theorem SqL.of {K:PySem.W.Frag} (h:H a=some (.lst xs)):SqL K H a xs:=.inl (.inl h)
theorem SqT.of {K:PySem.W.Frag} (h:H a=some (.tup xs)):SqT K H a xs:=.inl (.inl h)
theorem Inv.list (I:Inv X pins σ H s) (h:SqL X.K H a xs):∃ its:List Value,Vals xs its∧PlainL s.heap a its.toArray∧xs.length≤sizeLine:=by
 rcases h with h | ⟨o,its,n,hk,hc,hd,hs,hz,r⟩
 ·obtain⟨z,its,n,r,e⟩:=h.ok I.hok
  exact⟨its,r,⟨_,n,e,rfl,rfl,rfl⟩,z⟩
 ·refine⟨its.toList,r,⟨o,n,I.kIn a o hk,hc,hd,by simpa using hs⟩,?_⟩
  have e:=r.length
  simp only[Array.length_toList] at e
  omega
theorem Inv.tuple (I:Inv X pins σ H s) (h:SqT X.K H a xs):∃ its:List Value,Vals xs its∧IsTup s.heap a its.toArray∧xs.length≤sizeLine:=by
 rcases h with h | ⟨o,its,n,hk,hc,hs,hz,r⟩
 ·obtain⟨z,its,r,p⟩:=h.ok I.hok
  exact⟨its,r,p,z⟩
 ·refine⟨its.toList,r,⟨o,I.kIn a o hk,hc,n,by simpa using hs⟩,?_⟩
  have e:=r.length
  simp only[Array.length_toList] at e
  omega
theorem Inv.list_inj (I:Inv X pins σ H s) (h:SqL X.K H a xs) (h':SqL X.K H a ys):xs=ys:=by
 obtain⟨its,r,⟨o,n,e,_,_,d⟩,_⟩:=I.list h
 obtain⟨its',r',⟨o',n',e',_,_,d'⟩,_⟩:=I.list h'
 rw[e] at e';cases e'
 rw[d] at d'
 injection d' with d1 _
 have:its=its':=by simpa using congrArg Array.toList d1
 subst this
 exact r.inj r'
theorem Inv.tuple_inj (I:Inv X pins σ H s) (h:SqT X.K H a xs) (h':SqT X.K H a ys):xs=ys:=by
 obtain⟨its,r,⟨o,e,_,n,d⟩,_⟩:=I.tuple h
 obtain⟨its',r',⟨o',e',_,n',d'⟩,_⟩:=I.tuple h'
 rw[e] at e';cases e'
 rw[d] at d'
 injection d' with d1 _
 have:its=its':=by simpa using congrArg Array.toList d1
 subst this
 exact r.inj r'
end
abbrev Cx.wish (X:Cx) (E:Value→Shared→Prop):Cx:={ X with xe:=E }
abbrev Cx.nox (X:Cx):Cx:=X.wish fun _ _=>False
theorem Cx.Ok.wish {X:Cx} (ok:X.Ok) (E:Value→Shared→Prop):(X.wish E).Ok:=
 ⟨ok.mod,ok.kind,ok.glob,ok.blt,ok.above,ok.inj,ok.has,ok.cab,ok.hd,ok.frames,ok.stk,ok.exf,ok.bs,ok.bsz,ok.noex,ok.exfs,ok.funs,ok.frf⟩
theorem Cx.Ok.unwish {X:Cx}{E:Value→Shared→Prop} (ok:(X.wish E).Ok):X.Ok:=
 ⟨ok.mod,ok.kind,ok.glob,ok.blt,ok.above,ok.inj,ok.has,ok.cab,ok.hd,ok.frames,ok.stk,ok.exf,ok.bs,ok.bsz,ok.noex,ok.exfs,ok.funs,ok.frf⟩
section
variable {X:Cx}{pins:List (Addr×Obj)}{σ:St}{H:Hp}{s:Shared}{E:Value→Shared→Prop}
theorem Inv.wish (I:Inv X pins σ H s) (E:Value→Shared→Prop):Inv (X.wish E) pins σ H s:=⟨I.ok.wish E,I.os,I.bare,I.base,I.loc,I.cell,I.free,I.freeC,I.pin,I.hok,I.len⟩
theorem Inv.unwish (I:Inv (X.wish E) pins σ H s):Inv X pins σ H s:=⟨I.ok.unwish,I.os,I.bare,I.base,I.loc,I.cell,I.free,I.freeC,I.pin,I.hok,I.len⟩
theorem SP.unwish {D:Ends}{f:Flow}{s':Shared} (h:SP (X.wish E) pins D f s'):SP X pins D f s':=by
 cases f with
 | next=>obtain⟨σ',H',I,q⟩:=h;exact⟨σ',H',I.unwish,q⟩
 | brk=>obtain⟨σ',H',I,q⟩:=h;exact⟨σ',H',I.unwish,q⟩
 | cont=>obtain⟨σ',H',I,q⟩:=h;exact⟨σ',H',I.unwish,q⟩
 | ret u=>obtain⟨v,σ',H',I,r,q⟩:=h;exact⟨v,σ',H',I.unwish,r,q⟩
theorem PSs.nox {st:List Stmt}{t:TS} (h:PSs X.nox st t):PSs X st t:=fun pins s σ H D I hw=>
 wpAny_mono (h pins s σ H D (I.wish _) hw) (fun _ _ q=>q.unwish) fun _ _ z=>False.elim z
end
section
variable {X:Cx}{st:Stmt}{rest:List Stmt}{t u:TS}{e:Expr}{te:TE}{pos:Pos}
def tNext:TS:=fun D σ H=>D.nx σ H
def tSeq (t u:TS):TS:=fun D σ H=>t { D with nx:=u D } σ H
theorem pss_nil:PSs X [] tNext:=fun _ _ σ H _ I h=>wpAny_execs_nil ⟨σ,H,I,h⟩
theorem zah (h1:PS X st t) (h2:PSs X rest u):PSs X (st::rest) (tSeq t u):=by
 intro pins s σ H D I h
 refine wpAny_execs_cons (thn (h1 pins s σ H { D with nx:=u D } I h) fun f s1 q=>?_)
 cases f with
 | next=>
  obtain⟨σ',H',I',q⟩:=q
  exact h2 pins s1 σ' H' D I' q
 | ret v=>exact q
 | brk=>exact q
 | cont=>exact q
theorem zak (h1:PS X st t):PSs X [st] t:=by
 intro pins s σ H D I h
 refine wpAny_execs_cons (thn (h1 pins s σ H D I h) fun f s1 q=>?_)
 cases f with
 | next=>exact wpAny_execs_nil q
 | ret v=>exact q
 | brk=>exact q
 | cont=>exact q
theorem Inv.quiet {pins:List (Addr×Obj)}{σ:St}{H:Hp}{s:Shared} (I:Inv X pins σ H s):interactive X.env=false:=by simp [interactive,I.ok.kind]
def tDrop (te:TE):TS:=fun D σ H=>te σ H fun _ H1=>D.nx σ H1
theorem zdv (he:PE X e te) (hs:swapsWith e none pos.line X.env=pure false:=by rfl):PS X (.Expr e pos) (tDrop te):=by
 intro pins s σ H D I h
 exact wpAny_Expr_any (thn (he pins s σ H _ I h) fun v s1 ⟨x,H1,I1,r1,q1⟩=>⟨σ,H1,I1,q1⟩) I.quiet hs
def tRet (te:TE):TS:=fun D σ H=>te σ H D.rt
theorem zaV (he:PE X e te):PS X (.Return (some e) pos) (tRet te):=by
 intro pins s σ H D I h
 exact wpAny_Return_some (thn (he pins s σ H _ I h) fun v s1 ⟨x,H1,I1,r1,q1⟩=>⟨x,σ,H1,I1,r1,q1⟩)
def tIfS (c:TT) (t u:TS):TS:=fun D σ H=>c σ H fun b H1=>if b=true then t D σ H1 else u D σ H1
theorem zcR {c:Expr}{a b:List Stmt}{tc:TT} (hc:PT X c tc) (ha:PSs X a t) (hb:PSs X b u):PS X (.If c a b pos) (tIfS tc t u):=by
 intro pins s σ H D I h
 refine wpAny_If (thn (hc pins s σ H _ I h) fun d s1 ⟨H1,I1,q1⟩=>?_)
 cases d with
 | true=>exact ha pins s1 σ H1 D I1 q1
 | false=>exact hb pins s1 σ H1 D I1 q1
def tNever:TS:=fun _ _ _=>False
theorem ps_never:PS X st tNever:=fun _ _ _ _ _ _ h=>h.elim
theorem zcv {sts:List Stmt}:PSs X sts tNever:=fun _ _ _ _ _ _ h=>h.elim
end
abbrev TG:=V→St→Hp→(St→Hp→Prop)→Prop
def PG (X:Cx) (target:Expr) (t:TG):Prop:=
 ∀ (pins:List (Addr×Obj)) (s:Shared) (σ:St) (H:Hp) (v:V) (u:Value) (Q:St→Hp→Prop),Inv X pins σ H s→RelV v u→t v σ H Q →
  wpAny (model X.prog X.w) X.A (assign target X.env u) (fun _ s'=>∃ σ' H',Inv X pins σ' H' s'∧Q σ' H') X.xe s
abbrev TSet:=V→V→V→Hp→(Hp→Prop)→Prop
def PSet (X:Cx) (t:TSet):Prop:=
 ∀ (pins:List (Addr×Obj)) (s:Shared) (σ:St) (H:Hp) (o i v:V) (ov iv u:Value) (Q:Hp→Prop),Inv X pins σ H s→RelV o ov→RelV i iv→RelV v u→t o i v H Q →
  wpAny (model X.prog X.w) X.A (setItem ov iv u) (fun _ s'=>∃ H',Inv X pins σ H' s'∧Q H') X.xe s
section
variable {X:Cx}{pos:Pos}
def gName (i:Nat):TG:=fun v σ H Q=>Q (σ.set i (some v)) H
theorem pg_name {i:Nat}{x:Str} (hN:X.N.Nodup) (hi:X.N[i]?=some x) (hx:Loc X.env.scope x) (hf:X.fn x=true∨X.env.scope.names.lookup x=some .local:=by first | exact .inl rfl | exact .inr rfl | assumption):PG X (.Name x pos) (gName i):=by
 intro pins s σ H v u Q I r h
 exact wpAny_assign_Name (zdl I hN hi hx r (fun s' I'=>⟨_,H,I',h⟩) hf)
def gSub (to ti:TE) (t:TSet):TG:=fun v σ H Q=>to σ H fun o H1=>ti σ H1 fun i H2=>t o i v H2 fun H3=>Q σ H3
theorem pg_sub {o i:Expr}{to ti:TE}{t:TSet} (ho:PE X o to) (hi:PE X i ti) (hs:PSet X t)
  (ha:∀ v,assign (.Subscript o i pos) X.env v=(do
   let ov ← holding [v] (eval o X.env)
   let iv ← holding [v,ov] (eval i X.env)
   standAt pos
   holding [v,ov,iv] (setItem ov iv v)
   release [v,ov,iv] []):=by intro _;rfl):PG X (.Subscript o i pos) (gSub to ti t):=by
 intro pins s σ H v u Q I r h
 rw[ha]
 refine wpAny_bind (wpAny_holding (thn (ho pins s σ H _ I h) fun ov s1 ⟨x,H1,I1,r1,q1⟩=>?_))
 refine wpAny_bind (wpAny_holding (thn (hi pins s1 σ H1 _ I1 q1) fun iv s2 ⟨y,H2,I2,r2,q2⟩=>?_))
 refine wpAny_bind (wpAny_standAt (wpAny_bind (wpAny_holding (thn (hs pins s2 σ H2 x y v ov iv u _ I2 r1 r2 r q2) fun _ s3 ⟨H3,I3,q3⟩=>?_))))
 exact wpAny_release ⟨σ,H3,I3,q3⟩
def tAsg (te:TE) (g:TG):TS:=fun D σ H=>te σ H fun x H1=>g x σ H1 D.nx
theorem ps_asg {tg e:Expr}{te:TE}{g:TG} (he:PE X e te) (hg:PG X tg g) (hs:swapsWithSole [tg] e pos.line X.env=pure false:=by rfl) (hw:swappedStores [tg] e X.env=pure none:=by rfl)
  (h1:(assignEach [tg] X.env).map (·.2)=[assign tg X.env]:=by rfl):PS X (.Assign [tg] e pos) (tAsg te g):=by
 intro pins s σ H D I h
 refine wpAny_Assign_stores (thn (he pins s σ H _ I h) fun v s1 ⟨x,H1,I1,r1,q1⟩=>?_) hs hw
 rw[h1]
 exact thn (hg pins s1 σ H1 x v _ I1 r1 q1) fun _ s2 q=>q
theorem zaM {i:Nat}{x:Str}{e:Expr}{te:TE}{pos':Pos} (hN:X.N.Nodup) (hi:X.N[i]?=some x) (hx:Loc X.env.scope x) (he:PE X e te) (hs:swapsWith e (some (.Name x pos')) pos.line X.env=pure false:=by rfl) (hf:X.fn x=true∨X.env.scope.names.lookup x=some .local:=by first | exact .inl rfl | exact .inr rfl | assumption) :
  PS X (.Assign [.Name x pos'] e pos) (tAsg te (gName i)):=by
 intro pins s σ H D I h
 refine wpAny_Assign_Name (thn (he pins s σ H _ I h) fun v s1 ⟨y,H1,I1,r1,q1⟩=>?_) hs
 exact zdl I1 hN hi hx r1 (fun s2 I2=>⟨_,H1,I2,q1⟩) hf
end
section
variable {X:Cx}{pos:Pos}
def tWhile (c:TT) (tb:TS):TS:=fun D σ H=>∃ W:Nat→St→Hp→Prop,(∃ m,W m σ H)∧∀ m σ H,W m σ H →
 c σ H fun b H1=>if b=true then ∃ N:St→Hp→Prop,(∀ σ' H',N σ' H'→∃ m',m'<m∧W m' σ' H')∧tb { D with nx:=N,ct:=N,bk:=D.nx } σ H1 else D.nx σ H1
theorem zfz {c:Expr}{body:List Stmt}{tc:TT}{tb:TS} (hp:PassesOwn (model X.prog X.w) X.A X.env X.xe) (hc:PT X c tc) (hb:PSs X body tb):PS X (.While c body [] pos) (tWhile tc tb):=by
 intro pins s σ H D I h
 obtain⟨W,⟨m0,w0⟩,turn⟩:=h
 refine wpAny_While (codeAny_whileLoop (fun n s'=>∃ σ' H',Inv X pins σ' H' s'∧W n σ' H') ?_ m0 ⟨σ,H,I,w0⟩)
 rintro n s1 ⟨σ1,H1,I1,w1⟩
 refine wpAny_passesOwn hp (thn (hc pins s1 σ1 H1 _ I1 (turn n σ1 H1 w1)) fun b s2 ⟨H2,I2,q2⟩=>?_)
 cases b with
 | true=>
  obtain⟨N,hN,q2⟩:=q2
  rw[if_pos rfl]
  refine wpAny_passesOwn hp (thn (hb pins s2 σ1 H2 _ I2 q2) fun f s3 q3=>?_)
  cases f with
  | next=>
   obtain⟨σ3,H3,I3,n3⟩:=q3
   obtain⟨m',hm,w3⟩:=hN σ3 H3 n3
   exact⟨m',hm,σ3,H3,I3,w3⟩
  | cont=>
   obtain⟨σ3,H3,I3,n3⟩:=q3
   obtain⟨m',hm,w3⟩:=hN σ3 H3 n3
   exact⟨m',hm,σ3,H3,I3,w3⟩
  | brk=>exact q3
  | ret v=>exact q3
 | false=>
  rw[if_neg Bool.false_ne_true]
  exact wpAny_execs_nil ⟨σ1,H2,I2,q2⟩
end
structure It where
 go:Nat→Hp→Prop
 yld:Nat→Hp→V→Hp→Prop
 stop:Nat→Hp→Prop
def FpOk (X:Cx) (pins:List (Addr×Obj)) (H:Hp) (b:Addr):Prop:=
 H b=none∧b≠X.env.locals∧b∉X.fs∧(b∈X.ex∨X.s₀.heap.objs.size≤b)∧(∀ x c,X.env.cells.lookup x=some c→c≠b)∧∀ p∈X.pn++pins,p.1≠b
theorem Inv.fpOk {X:Cx}{pins:List (Addr×Obj)}{σ:St}{H H':Hp}{s:Shared}{b:Addr} (I:Inv X pins σ H s) (hb:s.heap.objs.size≤b) (hn:H' b=none):FpOk X pins H' b:=by
 refine⟨hn,Nat.ne_of_gt (Nat.lt_of_lt_of_le I.lt hb),I.nofs hb,.inr (Nat.le_trans I.sz hb),fun x c e z=>?_,fun p hp z=>?_⟩
 ·obtain⟨v,q⟩:=I.cell x c e
  exact absurd (Nat.lt_of_lt_of_le q.lt (by rw[z];exact hb)) (Nat.lt_irrefl _)
 ·exact absurd (Nat.lt_of_lt_of_le (Heap.lt_size (I.pin p hp).1) (by rw[z];exact hb)) (Nat.lt_irrefl _)
structure Turn (P:Program) (w:World) (K:PySem.W.Frag) (tg:Expr) (J:It) (fp:List Addr) (it:Addr) (tn:Nat→Heap→Prop):Prop where
 mem:it∈fp
 obj:∀ i h,tn i h→∀ b∈fp,∃ o,h.get? b=some o∧∀ v,o.data≠.cell v
 keep:∀ i h h',tn i h→(∀ b∈fp,∀ o,h.get? b=some o→h'.get? b=some o)→tn i h'
 item:∀ (X:Cx),X.prog=P→X.w=w→X.K=K→X.calm=true→∀ (i:Nat) (pins:List (Addr×Obj)) (s:Shared) (σ:St) (H:Hp) (E:Value→Shared→Prop),Inv X pins σ H s→(∀ b∈fp,FpOk X pins H b)→tn i s.heap→J.go i H →
  wpAny (model P w) X.A (pyNext (.ref it)) (fun r s1=>∃ u,r=some u ∧
   wpAny (model P w) X.A (letOwnedTupleGo tg (.ref it) u) (fun _ s2=>∃ x H',Inv X pins σ H' s2∧RelV x u∧J.yld i H x H'∧tn (i+1) s2.heap∧∀ b∈fp,H' b=none) E s1) E s
 done:∀ (X:Cx),X.prog=P→X.w=w→X.K=K→X.calm=true→∀ (i:Nat) (pins:List (Addr×Obj)) (s:Shared) (σ:St) (H:Hp) (E:Value→Shared→Prop),Inv X pins σ H s→(∀ b∈fp,FpOk X pins H b)→tn i s.heap→J.stop i H →
  wpAny (model P w) X.A (pyNext (.ref it)) (fun r s1=>r=none∧Inv X pins σ H s1) E s
 self:∀ (A:Around) (i:Nat) (s:Shared) (Q:Value→Shared→Prop) (E:Value→Shared→Prop),tn i s.heap→Q (.ref it) s→wpAny (model P w) A (pyIter (.ref it)) Q E s
abbrev TI:=St→Hp→(It→Hp→Prop)→Prop
def PIE (X:Cx) (pins:List (Addr×Obj)) (σ:St) (tg:Expr) (R:It→Hp→Prop) (itv:Value) (s2:Shared):Prop:=
 ∃ (it:Addr) (fp:List Addr) (tn:Nat→Heap→Prop) (J:It) (H':Hp),itv=.ref it∧Inv X pins σ H' s2∧Turn X.prog X.w X.K tg J fp it tn∧tn 0 s2.heap∧(∀ b∈fp,FpOk X pins H' b)∧R J H'
def PI (X:Cx) (tg iter:Expr) (wi:TI):Prop:=
 ∀ (pins:List (Addr×Obj)) (s:Shared) (σ:St) (H:Hp) (R:It→Hp→Prop),Inv X pins σ H s→wi σ H R →
  wpAny (model X.prog X.w) X.A (eval iter X.env) (fun v s1=>wpAny (model X.prog X.w) X.A (pyIter v) (PIE X pins σ tg R) X.xe s1) X.xe s
theorem go_of {M:Model}{A:Around}{E:Value→Shared→Prop}{s:Shared}{tg:Expr}{it:Addr}{u:Value}{o:Obj}{n:String}{vs:Array Value}{Q:Unit→Shared→Prop} (ho:s.heap.get? it=some o) (hc:o.cls=.type n) (hd:o.data=.fields vs)
  (hn:["enumerate","zip","dict_itemiterator","dict_reverseitemiterator","odict_iterator","itertools.zip_longest","itertools.pairwise"].contains n=false) (hQ:Q () s):wpAny M A (letOwnedTupleGo tg (.ref it) u) Q E s:=by
 unfold letOwnedTupleGo
 cases tg<;>first
  | exact wpAny_pure hQ
  | (cases u<;>first
    | exact wpAny_pure hQ
    | (refine wpAny_bind (wpAny_load ho ?_)
       rw[hc,hd]
       show wpAny M A (if (["enumerate","zip","dict_itemiterator","dict_reverseitemiterator","odict_iterator","itertools.zip_longest","itertools.pairwise"].contains n&&vs[0]?==some (rawInt _))=true then _ else _) Q E s
       rw[if_neg (by intro h;rw[hn,Bool.false_and] at h;cases h)]
       exact wpAny_pure hQ))
def Itl (K:PySem.W.Frag) (a:Addr):It:=
 ⟨fun i H=>∃ xs x,SqL K H a xs∧xs[i]?=some x,fun i H x H'=>H'=H∧∀ xs,SqL K H a xs→xs[i]?=some x,fun i H=>∃ xs,SqL K H a xs∧xs.length≤i⟩
def Itt (K:PySem.W.Frag) (a:Addr):It:=
 ⟨fun i H=>∃ xs x,SqT K H a xs∧xs[i]?=some x,fun i H x H'=>H'=H∧∀ xs,SqT K H a xs→xs[i]?=some x,fun i H=>∃ xs,SqT K H a xs∧xs.length≤i⟩
def Itr (lo:Int) (n:Nat):It:=⟨fun i _=>i<n,fun i H x H'=>H'=H∧x=.int (lo+i),fun i _=>n≤i⟩
theorem turn_list {P:Program}{w:World}{K:PySem.W.Frag}{tg:Expr} (a it:Addr):Turn P w K tg (Itl K a) [it] it (fun i h=>h.IsListIter it a i) where
 mem:=by simp
 obj:=fun i h st b hb=>by
  have e:b=it:=by simpa using hb
  subst e
  obtain⟨o,e,c,d⟩:=st
  exact⟨o,e,fun v z=>by rw[d] at z;cases z⟩
 keep:=fun i h h' st k=>st.at fun o e=>k it (by simp) o e
 item:=by
  intro X hP hw hK hc i pins s σ H E I hf st hg
  subst hP hw hK
  obtain⟨xs,x,hq,hx⟩:=hg
  obtain⟨its,rv,p,hz⟩:=I.list hq
  obtain⟨u,hu,ru⟩:=rv.get hx
  obtain⟨f0,f1,f2,f3,f4,f5⟩:=hf it (by simp)
  refine wpAny_pyNext_list_item st p.isList (x:=u) (by simpa using hu) fun h' st' sb=>?_
  have I1:Inv X pins σ H { s with heap:=h' }:=I.turned (t':=s.toks) (fun b o hb e=>(sb.2 b hb).trans e) f0 f1 f3 f4 f5
  obtain⟨o,e,c,d⟩:=id st'
  exact⟨u,rfl,go_of (s:={ s with heap:=h' }) e c d (by decide) ⟨x,H,I1,ru,⟨rfl,fun ys hy=>by rw[I.list_inj hy hq];exact hx⟩,st',fun b hb=>(hf b hb).1⟩⟩
 done:=by
  intro X hP hw hK hc i pins s σ H E I hf st hg
  subst hP hw hK
  obtain⟨xs,hq,hx⟩:=hg
  obtain⟨its,rv,p,hz⟩:=I.list hq
  obtain⟨f0,f1,f2,f3,f4,f5⟩:=hf it (by simp)
  have hl:=rv.length
  exact wpAny_pyNext_list_end (I.ok.hd hc) st p.isList (by simp;omega) fun h' eb=>⟨rfl,I.turned (t':=s.toks) (fun b o hb e=>eb b o hb e) f0 f1 f3 f4 f5⟩
 self:=fun _ _ _ _ _ st h=>wpAny_pyIter_listiter st h
theorem turn_tuple {P:Program}{w:World}{K:PySem.W.Frag}{tg:Expr} (a it:Addr):Turn P w K tg (Itt K a) [it] it (fun i h=>h.IsTupleIter it a i) where
 mem:=by simp
 obj:=fun i h st b hb=>by
  have e:b=it:=by simpa using hb
  subst e
  obtain⟨o,e,c,d⟩:=st
  exact⟨o,e,fun v z=>by rw[d] at z;cases z⟩
 keep:=fun i h h' st k=>st.at fun o e=>k it (by simp) o e
 item:=by
  intro X hP hw hK hc i pins s σ H E I hf st hg
  subst hP hw hK
  obtain⟨xs,x,hq,hx⟩:=hg
  obtain⟨its,rv,p,hz⟩:=I.tuple hq
  obtain⟨u,hu,ru⟩:=rv.get hx
  obtain⟨f0,f1,f2,f3,f4,f5⟩:=hf it (by simp)
  refine wpAny_pyNext_tuple_item st (show s.heap.IsTuple a its.toArray from p) (x:=u) (by simpa using hu) fun h' st' sb=>?_
  have I1:Inv X pins σ H { s with heap:=h' }:=I.turned (t':=s.toks) (fun b o hb e=>(sb.2 b hb).trans e) f0 f1 f3 f4 f5
  obtain⟨o,e,c,d⟩:=id st'
  exact⟨u,rfl,go_of (s:={ s with heap:=h' }) e c d (by decide) ⟨x,H,I1,ru,⟨rfl,fun ys hy=>by rw[I.tuple_inj hy hq];exact hx⟩,st',fun b hb=>(hf b hb).1⟩⟩
 done:=by
  intro X hP hw hK hc i pins s σ H E I hf st hg
  subst hP hw hK
  obtain⟨xs,hq,hx⟩:=hg
  obtain⟨its,rv,p,hz⟩:=I.tuple hq
  obtain⟨f0,f1,f2,f3,f4,f5⟩:=hf it (by simp)
  have hl:=rv.length
  exact wpAny_pyNext_tuple_end (I.ok.hd hc) st (show s.heap.IsTuple a its.toArray from p) (by simp;omega) fun h' eb=>⟨rfl,I.turned (t':=s.toks) (fun b o hb e=>eb b o hb e) f0 f1 f3 f4 f5⟩
 self:=fun _ _ _ _ _ st h=>wpAny_pyIter_tupleiter st h
theorem turn_range {P:Program}{w:World}{K:PySem.W.Frag}{tg:Expr} (it:Addr) (lo:Int) (n:Nat):Turn P w K tg (Itr lo n) [it] it (fun i h=>IsRangeIter h it (lo+(i:Nat)*1) ((n:Int)-(i:Nat)) 1) where
 mem:=by simp
 obj:=fun i h st b hb=>by
  have e:b=it:=by simpa using hb
  subst e
  exact⟨_,st,fun v z=>by
   have z':Data.fields _=Data.cell v:=z
   cases z'⟩
 keep:=fun i h h' st k=>k it (by simp) _ st
 item:=by
  intro X hP hw hK hc i pins s σ H E I hf st hg
  subst hP hw hK
  obtain⟨f0,f1,f2,f3,f4,f5⟩:=hf it (by simp)
  have W:=Walks.range (prog:=X.prog) (w:=X.w) (I.ok.hd hc) it lo 1 n
  refine W.item i s _ _ hg st fun v h' tk hv st' kk=>?_
  obtain⟨t,rfl⟩:=hv
  have I1:Inv X pins σ H { s with heap:=h',toks:=tk }:=I.turned (fun b o hb e=>kk b o (by simpa using hb) e) f0 f1 f3 f4 f5
  refine⟨_,rfl,go_of (s:={ s with heap:=h',toks:=tk }) (n:="range_iterator") st' rfl rfl (by decide) ⟨.int (lo+i),H,I1,⟨t,?_⟩,⟨rfl,rfl⟩,st',fun b hb=>(hf b hb).1⟩⟩
  rw[Int.mul_one]
 done:=by
  intro X hP hw hK hc i pins s σ H E I hf st hg
  subst hP hw hK
  obtain⟨f0,f1,f2,f3,f4,f5⟩:=hf it (by simp)
  exact wpAny_pyNext_range_end (I.ok.hd hc) st (by have:n≤i:=hg;omega) fun h' eb=>⟨rfl,I.turned (t':=s.toks) (fun b o hb e=>eb b o hb e) f0 f1 f3 f4 f5⟩
 self:=fun _ _ _ _ _ st h=>wpAny_pyIter_rangeiter st h
end L2
namespace L2
open PySem PySem.Spec PyProof.Rows
section
variable {X:Cx}{tg:Expr}
theorem range_it {pins:List (Addr×Obj)}{σ:St}{H:Hp}{s:Shared}{R:It→Hp→Prop}{E:Value→Shared→Prop}{lo hi:Int}{t u v:Tok}{tk:Nat} (I:Inv X pins σ H s) (h1:-(2 ^ 62)≤lo) (h2:lo<2 ^ 62) (h3:-(2 ^ 62)≤hi) (h4:hi<2 ^ 62)
  (q:R (Itr lo (hi-lo).toNat) H):wpAny (model X.prog X.w) X.A (pyIter (.ref s.heap.objs.size)) (PIE X pins σ tg R) E { s with heap:=s.heap.push { cls:=.type "range",data:=.fields #[.int lo t,.int hi u,.int 1 v] },toks:=tk }:=by
 refine wpAny_pyIter_range (IsRange.new ..) (small_one h1 h2 h3 h4) ?_
 have I1:Inv X pins σ H { s with heap:=s.heap.push { cls:=.type "range",data:=.fields #[.int lo t,.int hi u,.int 1 v] },toks:=tk }:=I.kept fun b o e=>Heap.get?_push_of_some _ e
 refine⟨(s.heap.push { cls:=.type "range",data:=.fields #[.int lo t,.int hi u,.int 1 v] }).objs.size,[(s.heap.push { cls:=.type "range",data:=.fields #[.int lo t,.int hi u,.int 1 v] }).objs.size],_,_,H,rfl,
  I1.kept (t':=tk) fun b o e=>Heap.get?_push_of_some _ e,turn_range _ lo (hi-lo).toNat,?_,fun b hb=>?_,q⟩
 ·have e1:lo+((0:Nat):Int)*1=lo:=by simp
  have e2:(((hi-lo).toNat:Nat):Int)-((0:Nat):Int)=Builtin.Range.rangeSize lo hi 1:=by rw[rangeSize_one];split<;>omega
  show IsRangeIter _ _ (lo+((0:Nat):Int)*1) ((((hi-lo).toNat:Nat):Int)-((0:Nat):Int)) 1
  rw[e1,e2]
  exact Heap.get?_push_size _ rfl
 ·have e:b=(s.heap.push { cls:=.type "range",data:=.fields #[.int lo t,.int hi u,.int 1 v] }).objs.size:=by simpa using hb
  subst e
  exact I1.fpOk (Nat.le_refl _) (I1.hok.fresh (Nat.le_refl _))
def iRng1 (ta:TA):TI:=fun σ H R=>ta σ H fun vs H1=>∃ j:Int,vs=[.int j] ∧ -(2 ^ 62)≤j∧j<2 ^ 62∧R (Itr 0 j.toNat) H1
theorem pi_range1 {a:Expr}{ta:TA}{p pos:Pos} (hg:Gl X "range") (hm:X.mg "range"=none) (ha:PA X [a] ta) (hs:starEach [a] X.env=[(false,eval a X.env)]:=by rfl):PI X tg (.Call (.Name "range" p) [a] [] pos) (iRng1 ta):=by
 intro pins s σ H R I h
 refine Call_ (zes I hg hm boot_range (PyProof.Rows.callWith_type1 (thn (ha pos pins s σ H _ I h) fun us s1 ⟨vs,H1,I1,r1,q1⟩=>?_) hs rfl))
 obtain⟨j,e,q1,q2,q⟩:=q1
 subst e
 cases r1 with
 | cons r rr=>
  cases rr
  obtain⟨t,rfl⟩:=r
  exact call_range_1 (range_it I1 (by omega) (by omega) q1 q2 (by simpa using q))
def tFor (wi:TI) (g:TG) (tb:TS):TS:=fun D σ H=>wi σ H fun J H1=>∃ W:Nat→Nat→St→Hp→Prop,(∃ m,W 0 m σ H1)∧∀ i m σ H,W i m σ H →
 (J.stop i H∧D.nx σ H)∨(J.go i H∧∃ N:St→Hp→Prop,(∀ σ' H',N σ' H'→∃ m',m'<m∧W (i+1) m' σ' H')∧∀ x H',J.yld i H x H'→g x σ H' fun σ2 H2=>tb { D with nx:=N,ct:=N,bk:=D.nx } σ2 H2)
def pinsAt (fp:List Addr) (h:Heap):List (Addr×Obj):=fp.filterMap fun b=>(h.get? b).map fun o=>(b,o)
theorem zbp {fp:List Addr}{h:Heap}{b:Addr}{o:Obj} (hb:b∈fp) (e:h.get? b=some o):(b,o)∈pinsAt fp h:=List.mem_filterMap.mpr ⟨b,hb,by rw[e];rfl⟩
theorem of_pinsAt {fp:List Addr}{h:Heap}{p:Addr×Obj} (hp:p∈pinsAt fp h):p.1∈fp∧h.get? p.1=some p.2:=by
 obtain⟨b,hb,e⟩:=List.mem_filterMap.mp hp
 cases q:h.get? b with
 | none=>rw[q] at e;cases e
 | some o=>
  rw[q] at e
  have e':(b,o)=p:=Option.some.inj e
  subst e'
  exact⟨hb,q⟩
theorem Inv.pinned {pins:List (Addr×Obj)}{σ:St}{H:Hp}{s:Shared}{fp:List Addr} (I:Inv X pins σ H s) (hf:∀ b∈fp,FpOk X pins H b) (ho:∀ b∈fp,∃ o,s.heap.get? b=some o∧∀ v,o.data≠.cell v):Inv X (pins++pinsAt fp s.heap) σ H s:=
 I.pins_of fun p hp=>(List.mem_append.mp hp).elim (fun z=>I.pin p (List.mem_append_right _ z)) fun z=>by
  obtain⟨hb,e⟩:=of_pinsAt z
  obtain⟨f0,f1,f2,_⟩:=hf p.1 hb
  obtain⟨o,e',d⟩:=ho p.1 hb
  rw[e] at e';cases e'
  exact⟨e,f0,f1,f2,d⟩
theorem Inv.unpinned {pins pl:List (Addr×Obj)}{σ:St}{H:Hp}{s:Shared} (I:Inv X (pins++pl) σ H s):Inv X pins σ H s:=I.pins_of fun p hp=>I.pin p (List.mem_append_right _ (List.mem_append_left _ hp))
theorem ps_for {iter:Expr}{body:List Stmt}{wi:TI}{g:TG}{tb:TS}{pos:Pos} (hp:PassesOwn (model X.prog X.w) X.A X.env X.xe) (hc:X.calm=true) (hi:PI X tg iter wi) (hg:PG X tg g) (hb:PSs X body tb)
  (hs:∀ x,foldedSetIterable iter X.env x=pure x:=by intro _;rfl):PS X (.For tg iter body [] pos) (tFor wi g tb):=by
 intro pins s σ H D I h
 refine wpAny_For (thn (hi pins s σ H _ I h) fun v s1 h1=>thn h1 fun itv s2 h2=>?_) hs
 obtain⟨it,fp,tn,J,H2,e,I2,T,st2,f2,W,⟨m0,w0⟩,turn⟩:=h2
 subst e
 -- what stays true of the iterator's objects through the loop
 have stat:∀ {H':Hp},(∀ b∈fp,H' b=none)→∀ b∈fp,FpOk X pins H' b:=fun hn b hb=>⟨hn b hb,(f2 b hb).2⟩
 refine codeAny_forLoop_any (fun n s'=>∃ i σ' H',Inv X pins σ' H' s'∧tn i s'.heap∧(∀ b∈fp,H' b=none)∧W i n σ' H') ?_ m0 ⟨0,σ,H2,I2,st2,fun b hb=>(f2 b hb).1,w0⟩
 rintro n s3 ⟨i,σ3,H3,I3,st3,fr3,w3⟩
 rcases turn i n σ3 H3 w3 with ⟨stop,qn⟩ | ⟨go,N,hN,step⟩
 ·refine wpAny_passesOwn hp (thn (T.done X rfl rfl rfl hc i pins s3 σ3 H3 X.xe I3 (stat fr3) st3 stop) fun r s4 ⟨hr,I4⟩=>?_)
  subst hr
  exact wpAny_execs_nil ⟨σ3,H3,I4,qn⟩
 ·refine wpAny_passesOwn hp (thn (T.item X rfl rfl rfl hc i pins s3 σ3 H3 X.xe I3 (stat fr3) st3 go) fun r s4 ⟨u,hr,h4⟩=>?_)
  subst hr
  refine wpAny_passesOwn hp (thn h4 fun _ s5 ⟨x,H5,I5,r5,y5,st5,fr5⟩=>?_)
  have I5':=I5.pinned (stat fr5) (T.obj _ _ st5)
  refine wpAny_passesOwn hp (thn (hg _ s5 σ3 H5 x u _ I5' r5 (step x H5 y5)) fun _ s6 ⟨σ6,H6,I6,q6⟩=>?_)
  refine wpAny_passesOwn hp (thn (hb _ s6 σ6 H6 _ I6 q6) fun f s7 q7=>?_)
  have again:∀ {σ7:St}{H7:Hp},Inv X (pins++pinsAt fp s5.heap) σ7 H7 s7→N σ7 H7→∃ m,m<n∧∃ i σ' H',Inv X pins σ' H' s7∧tn i s7.heap∧(∀ b∈fp,H' b=none)∧W i m σ' H':=fun {σ7 H7} I7 n7=>by
   obtain⟨m',hm,w7⟩:=hN σ7 H7 n7
   refine⟨m',hm,i+1,σ7,H7,I7.unpinned,T.keep _ _ _ st5 fun b hb o e=>(I7.pin (b,o) (List.mem_append_right _ (List.mem_append_right _ (zbp hb e)))).1,fun b hb=>?_,w7⟩
   obtain⟨o,e,d⟩:=T.obj _ _ st5 b hb
   exact(I7.pin (b,o) (List.mem_append_right _ (List.mem_append_right _ (zbp hb e)))).2.1
  cases f with
  | next=>obtain⟨σ7,H7,I7,n7⟩:=q7;exact again I7 n7
  | cont=>obtain⟨σ7,H7,I7,n7⟩:=q7;exact again I7 n7
  | brk=>obtain⟨σ7,H7,I7,q7⟩:=q7;exact⟨σ7,H7,I7.unpinned,q7⟩
  | ret v=>obtain⟨x7,σ7,H7,I7,r7,q7⟩:=q7;exact⟨x7,σ7,H7,I7.unpinned,r7,q7⟩
end
end L2
namespace L2
open PySem PySem.Spec PyProof.Rows
abbrev R2:=V→V→Hp→VK→Prop
def OpR (X:Cx) (f:Value→Value→Sem Value) (r:R2):Prop:=
 ∀ (pins:List (Addr×Obj)) (s:Shared) (σ:St) (H:Hp) (x y:V) (v u:Value) (Q:VK),Inv X pins σ H s→RelV x v→RelV y u→r x y H Q →
  wpAny (model X.prog X.w) X.A (f v u) (EP X pins σ Q) X.xe s
def UnR (X:Cx) (f:Value→Sem Value) (r:V→Hp→VK→Prop):Prop:=
 ∀ (pins:List (Addr×Obj)) (s:Shared) (σ:St) (H:Hp) (x:V) (v:Value) (Q:VK),Inv X pins σ H s→RelV x v→r x H Q →
  wpAny (model X.prog X.w) X.A (f v) (EP X pins σ Q) X.xe s
def CallR (X:Cx) (f:Value) (r:List V→Hp→VK→Prop):Prop:=
 ∀ (pins:List (Addr×Obj)) (s:Shared) (σ:St) (H:Hp) (xs:List V) (us:List Value) (Q:VK),Inv X pins σ H s→Vals xs us→r xs H Q →
  wpAny (model X.prog X.w) X.A (call f us) (EP X pins σ Q) X.xe s
def TruR (X:Cx) (r:V→Hp→(Bool→Hp→Prop)→Prop):Prop:=
 ∀ (pins:List (Addr×Obj)) (s:Shared) (σ:St) (H:Hp) (x:V) (v:Value) (Q:Bool→Hp→Prop),Inv X pins σ H s→RelV x v→r x H Q →
  wpAny (model X.prog X.w) X.A (truthy v) (TP X pins σ Q) X.xe s
def tOp (r:R2) (ta tb:TE):TE:=fun σ H Q=>ta σ H fun x H1=>tb σ H1 fun y H2=>r x y H2 Q
def tUn (r:V→Hp→VK→Prop) (ta:TE):TE:=fun σ H Q=>ta σ H fun x H1=>r x H1 Q
def rI (C:Int→Int→Prop) (g:Int→Int→V):R2:=fun x y H Q=>∃ i j,x=.int i∧y=.int j∧C i j∧Q (g i j) H
def rI0 (g:Int→Int→V):R2:=fun x y H Q=>∃ i j,x=.int i∧y=.int j∧Q (g i j) H
def rU (g:Int→V):V→Hp→VK→Prop:=fun x H Q=>∃ i,x=.int i∧Q (g i) H
section
variable {X:Cx}{a b c:Expr}{ta tb tc:TE}{pos:Pos}
theorem binT (ha:PE X a ta) (hb:PE X b tb){pins:List (Addr×Obj)}{s:Shared}{σ:St}{H:Hp}{R:V→V→Hp→Prop} (I:Inv X pins σ H s)
  (h:ta σ H fun x H1=>tb σ H1 fun y H2=>R x y H2){Q:Value→Shared→Prop}{f:Value→Value→Sem Value}
  (hf:∀ v u s2 x y H2,Inv X pins σ H2 s2→RelV x v→RelV y u→R x y H2→wpAny (model X.prog X.w) X.A (f v u) Q X.xe s2) :
  wpAny (model X.prog X.w) X.A (eval a X.env) (fun v s₁=>wpAny (model X.prog X.w) X.A (eval b X.env) (fun u s₂=>wpAny (model X.prog X.w) X.A (f v u) Q X.xe s₂) X.xe s₁) X.xe s:=by
 refine thn (ha pins s σ H _ I h) fun v s1 ⟨x,H1,I1,r1,q1⟩=>?_
 refine thn (hb pins s1 σ H1 _ I1 q1) fun u s2 ⟨y,H2,I2,r2,q2⟩=>?_
 exact hf v u s2 x y H2 I2 r1 r2 q2
theorem zaH {op:Operator}{r:R2} (ho:OpR X (binaryOp op) r) (ha:PE X a ta) (hb:PE X b tb):PE X (.BinOp a op b pos) (tOp r ta tb):=by
 intro pins s σ H Q I h
 exact wpAny_BinOp (binT ha hb I h fun v u s2 x y H2 I2 rx ry q=>ho pins s2 σ H2 x y v u Q I2 rx ry q)
theorem pe_un {op:UnaryOp}{r:V→Hp→VK→Prop} (ho:UnR X (unaryOp op) r) (ha:PE X a ta):PE X (.UnaryOp op a pos) (tUn r ta):=by
 intro pins s σ H Q I h
 exact UnaryOp_ (thn (ha pins s σ H _ I h) fun v s1 ⟨x,H1,I1,r1,q1⟩=>ho pins s1 σ H1 x v Q I1 r1 q1)
theorem opI {f:Value→Value→Sem Value}{C:Int→Int→Prop}{g:Int→Int→Int}
  (rule:∀ (i j:Int) (t u:Tok) (s:Shared) (Q:Value→Shared→Prop) (E:Value→Shared→Prop),C i j→Q (.int (g i j) s.toks) { s with toks:=s.toks+1 }→wpAny (model X.prog X.w) X.A (f (.int i t) (.int j u)) Q E s) :
  OpR X f (rI C fun i j=>.int (g i j)):=by
 intro pins s σ H x y v u Q I rx ry h
 obtain⟨i,j,rfl,rfl,hc,q⟩:=h
 obtain⟨t,rfl⟩:=rx
 obtain⟨t',rfl⟩:=ry
 exact rule i j t t' s _ _ hc ⟨.int (g i j),H,I.tok _,⟨_,rfl⟩,q⟩
theorem opI0 {f:Value→Value→Sem Value}{g:Int→Int→Int}
  (rule:∀ (i j:Int) (t u:Tok) (s:Shared) (Q:Value→Shared→Prop) (E:Value→Shared→Prop),Q (.int (g i j) s.toks) { s with toks:=s.toks+1 }→wpAny (model X.prog X.w) X.A (f (.int i t) (.int j u)) Q E s) :
  OpR X f (rI0 fun i j=>.int (g i j)):=by
 intro pins s σ H x y v u Q I rx ry h
 obtain⟨i,j,rfl,rfl,q⟩:=h
 obtain⟨t,rfl⟩:=rx
 obtain⟨t',rfl⟩:=ry
 exact rule i j t t' s _ _ ⟨.int (g i j),H,I.tok _,⟨_,rfl⟩,q⟩
theorem opB0 {f:Value→Value→Sem Value}{g:Int→Int→Bool}
  (rule:∀ (i j:Int) (t u:Tok) (s:Shared) (Q:Value→Shared→Prop) (E:Value→Shared→Prop),Q (.bool (g i j)) s→wpAny (model X.prog X.w) X.A (f (.int i t) (.int j u)) Q E s) :
  OpR X f (rI0 fun i j=>.bl (g i j)):=by
 intro pins s σ H x y v u Q I rx ry h
 obtain⟨i,j,rfl,rfl,q⟩:=h
 obtain⟨t,rfl⟩:=rx
 obtain⟨t',rfl⟩:=ry
 exact rule i j t t' s _ _ ⟨.bl (g i j),H,I,rfl,q⟩
def CDiv (i j:Int):Prop:=0<j∧j<1073741824
def CPow (i j:Int):Prop:=0≤j∧j≤1000000∧i.natAbs<2 ^ 64
def CMul (i j:Int):Prop:=(-(2 ^ 64)<i∧i<2 ^ 64)∨(-(2 ^ 64)<j∧j<2 ^ 64)
theorem CMul.ok {i j:Int} (h:CMul i j):IntMulOk i j:=by
 rcases h with ⟨h1,h2⟩ | ⟨h1,h2⟩
 ·exact .of_left (intBits_le_64 h1 h2)
 ·exact .of_right (intBits_le_64 h1 h2)
theorem op_add:OpR X (binaryOp .Add) (rI0 fun i j=>.int (i+j)):=opI0 fun _ _ _ _ _ _ _ q=>add_int q
theorem op_sub:OpR X (binaryOp .Sub) (rI0 fun i j=>.int (i-j)):=opI0 fun _ _ _ _ _ _ _ q=>sub_int q
theorem zcy:OpR X (binaryOp .Mult) (rI CMul fun i j=>.int (i*j)):=opI fun _ _ _ _ _ _ _ hc q=>mul_int q hc.ok
theorem op_fdiv:OpR X (binaryOp .FloorDiv) (rI CDiv fun i j=>.int (i / j)):=opI fun i j _ _ _ _ _ hc q=>by
 have h1:(0:Int)<j:=hc.1
 have h2:j<1073741824:=hc.2
 exact floordiv_int (by omega) (by rw[Int.fdiv_eq_ediv_of_nonneg i (by omega)];exact q) (.inl (PyProof.noPylong_small (by omega)))
theorem zcg:OpR X (binaryOp .Mod) (rI (fun _ j=>0<j) fun i j=>.int (i % j)):=opI fun i j _ _ _ _ _ hc q=>by
 have h1:(0:Int)<j:=hc
 exact mod_int' (by omega) (by rw[Int.fmod_eq_emod_of_nonneg i (by omega)];exact q)
theorem op_pow:OpR X (binaryOp .Pow) (rI CPow fun i j=>.int (i ^ j.toNat)):=opI fun _ _ _ _ _ _ _ hc q=>pow_int_small hc.1 hc.2.1 hc.2.2 q
theorem unI {f:Value→Sem Value}{g:Int→Int}
  (rule:∀ (i:Int) (t:Tok) (s:Shared) (Q:Value→Shared→Prop) (E:Value→Shared→Prop),Q (.int (g i) s.toks) { s with toks:=s.toks+1 }→wpAny (model X.prog X.w) X.A (f (.int i t)) Q E s) :
  UnR X f (rU fun i=>.int (g i)):=by
 intro pins s σ H x v Q I rx h
 obtain⟨i,rfl,q⟩:=h
 obtain⟨t,rfl⟩:=rx
 exact rule i t s _ _ ⟨.int (g i),H,I.tok _,⟨_,rfl⟩,q⟩
theorem un_neg:UnR X (unaryOp .USub) (rU fun i=>.int (-i)):=unI fun _ _ _ _ _ q=>neg_int q
end
def scal:V→V→Bool
 | .non,.non=>true | .non,.int _=>true | .int _,.non=>true | .non,.bl _=>true | .bl _,.non=>true | .non,.str _=>true | .str _,.non=>true
 | .int _,.int _=>true | .bl _,.bl _=>true | .str _,.str _=>true | .byt _,.byt _=>true
 | .int _,.str _=>true | .str _,.int _=>true | .bl _,.str _=>true | .str _,.bl _=>true
 | _,_=>false
def rEq:R2:=fun x y H Q=>scal x y=true∧Q (.bl (decide (x=y))) H
theorem dec_int {i j:Int}:decide (V.int i=V.int j)=(i==j):=by
 rw[Bool.eq_iff_iff]
 simp
theorem dec_bl {i j:Bool}:decide (V.bl i=V.bl j)=(i==j):=by
 rw[Bool.eq_iff_iff]
 simp
theorem dec_str {i j:Str}:decide (V.str i=V.str j)=(i==j):=by
 rw[Bool.eq_iff_iff]
 simp
theorem dec_byt {i j:Array UInt8}:decide (V.byt i=V.byt j)=(i.toList==j.toList):=by
 rw[Bool.eq_iff_iff]
 cases i
 cases j
 simp
section
variable {X:Cx}{a b c:Expr}{ta tb tc:TE}{pos:Pos}
theorem zaz {pins:List (Addr×Obj)}{σ:St}{H:Hp}{s:Shared}{Q:VK}{k k':Bool} (I:Inv X pins σ H s) (q:Q (.bl k) H) (e:k=k'):EP X pins σ Q (.bool k') s:=by
 subst e
 exact⟨.bl k,H,I,rfl,q⟩
theorem op_eq:OpR X (compareOp .Eq) rEq:=by
 intro pins s σ H x y v u Q I rx ry h
 obtain⟨hs,q⟩:=h
 cases x with
 | non=>
  cases rx
  cases y with
  | non=>cases ry;exact PySem.EqNone.eq_none_none (zaz I q (by simp))
  | bl j=>cases ry;exact PySem.EqNone.eq_none_bool (zaz I q (by simp))
  | int j=>obtain⟨t',rfl⟩:=ry;exact PySem.EqNone.eq_none_int (zaz I q (by simp))
  | str j=>obtain⟨t',rfl⟩:=ry;exact PySem.EqNone.eq_none_str (zaz I q (by simp))
  | _=>exact absurd (show false=true from hs) Bool.false_ne_true
 | bl i=>
  cases rx
  cases y with
  | non=>cases ry;exact PySem.EqNone.eq_bool_none (zaz I q (by simp))
  | bl j=>cases ry;exact eq_bool (zaz I q dec_bl)
  | str j=>obtain⟨t',rfl⟩:=ry;exact PySem.EqMixed.eq_bool_str (zaz I q (by simp))
  | _=>exact absurd (show false=true from hs) Bool.false_ne_true
 | int i=>
  obtain⟨t,rfl⟩:=rx
  cases y with
  | non=>cases ry;exact PySem.EqNone.eq_int_none (zaz I q (by simp))
  | int j=>obtain⟨t',rfl⟩:=ry;exact eq_int (zaz I q dec_int)
  | str j=>obtain⟨t',rfl⟩:=ry;exact PySem.EqMixed.eq_int_str (zaz I q (by simp))
  | _=>exact absurd (show false=true from hs) Bool.false_ne_true
 | str i=>
  obtain⟨t,rfl⟩:=rx
  cases y with
  | non=>cases ry;exact PySem.EqNone.eq_str_none (zaz I q (by simp))
  | bl j=>cases ry;exact PySem.EqMixed.eq_str_bool (zaz I q (by simp))
  | int j=>obtain⟨t',rfl⟩:=ry;exact PySem.EqMixed.eq_str_int (zaz I q (by simp))
  | str j=>obtain⟨t',rfl⟩:=ry;exact eq_str (zaz I q dec_str)
  | _=>exact absurd (show false=true from hs) Bool.false_ne_true
 | byt i=>
  obtain⟨t,rfl⟩:=rx
  cases y with
  | byt j=>obtain⟨t',rfl⟩:=ry;exact PySem.W.eq_bytes (zaz I q dec_byt)
  | _=>exact absurd (show false=true from hs) Bool.false_ne_true
 | _=>cases y<;>exact absurd (show false=true from hs) Bool.false_ne_true
theorem op_lt:OpR X (compareOp .Lt) (rI0 fun i j=>.bl (decide (i<j))):=opB0 fun _ _ _ _ _ _ _ q=>lt_int q
theorem op_le:OpR X (compareOp .LtE) (rI0 fun i j=>.bl (decide (i≤j))):=opB0 fun _ _ _ _ _ _ _ q=>le_int q
theorem op_gt:OpR X (compareOp .Gt) (rI0 fun i j=>.bl (decide (j<i))):=opB0 fun _ _ _ _ _ _ _ q=>gt_int q
theorem zeo:OpR X (compareOp .Lt) (fun x y H Q=>∃ i j,x=.str i∧y=.str j∧Q (.bl (decide (i.cps.toList<j.cps.toList))) H):=by
 intro pins s σ H x y v u Q I rx ry h
 obtain⟨i,j,rfl,rfl,q⟩:=h
 obtain⟨t,rfl⟩:=rx
 obtain⟨t',rfl⟩:=ry
 exact lt_str (zaz I q rfl)
theorem op_in_str:OpR X (compareOp .In) (fun x y H Q=>∃ i j,x=.str i∧y=.str j∧Q (.bl (!(Builtin.Str.occurrences j i 0 j.length 1).isEmpty)) H):=by
 intro pins s σ H x y v u Q I rx ry h
 obtain⟨i,j,rfl,rfl,q⟩:=h
 obtain⟨t,rfl⟩:=rx
 obtain⟨t',rfl⟩:=ry
 exact in_str (zaz I q rfl)
theorem op_isN:OpR X (compareOp .Is) (fun x y H Q=>y=.non∧Q (.bl (decide (x=.non))) H):=by
 intro pins s σ H x y v u Q I rx ry h
 obtain⟨rfl,q⟩:=h
 cases ry
 refine is_none_gen (zaz I q ?_)
 cases x<;>first
  | (cases rx;rfl)
  | (obtain⟨t,rfl⟩:=rx;rfl)
theorem zeV:OpR X (compareOp .IsNot) (fun x y H Q=>y=.non∧Q (.bl (!decide (x=.non))) H):=by
 intro pins s σ H x y v u Q I rx ry h
 obtain⟨rfl,q⟩:=h
 cases ry
 refine isnot_none_gen (zaz I q ?_)
 cases x<;>first
  | (cases rx;rfl)
  | (obtain⟨t,rfl⟩:=rx;rfl)
theorem OpR.or {f:Value→Value→Sem Value}{r r':R2} (h:OpR X f r) (h':OpR X f r'):OpR X f (fun x y H Q=>r x y H Q∨r' x y H Q):=by
 intro pins s σ H x y v u Q I rx ry q
 rcases q with q | q
 ·exact h pins s σ H x y v u Q I rx ry q
 ·exact h' pins s σ H x y v u Q I rx ry q
theorem nomark (b:Expr){op:CmpOp} (h:op≠.In:=by decide) (h2:op≠.NotIn:=by decide):behindInMarks op b=false:=by
 have e1:(op==CmpOp.In)=false:=by cases op<;>first | rfl | exact absurd rfl h
 have e2:(op==CmpOp.NotIn)=false:=by cases op<;>first | rfl | exact absurd rfl h2
 cases b<;>simp [behindInMarks,e1,e2]
theorem pe_cmpR {op:CmpOp}{r:R2} (ho:OpR X (compareOp op) r) (ha:PE X a ta) (hb:PE X b tb) (hm:behindInMarks op b=false):PE X (.Compare a [op] [b] pos) (tOp r ta tb):=by
 intro pins s σ H Q I h
 exact wpAny_Compare1 (binT ha hb I h fun v u s2 x y H2 I2 rx ry q=>ho pins s2 σ H2 x y v u Q I2 rx ry q) hm
def tTest (t:TE):TT:=fun σ H Q=>t σ H fun x H'=>∃ k,x=.bl k∧Q k H'
theorem zbz {op:CmpOp}{r:R2} (ho:OpR X (compareOp op) r) (ha:PE X a ta) (hb:PE X b tb) (hm:behindInMarks op b=false):PT X (.Compare a [op] [b] pos) (tTest (tOp r ta tb)):=by
 intro pins s σ H Q I h
 refine wpAny_isTrue_Compare1 (thn (ha pins s σ H _ I h) fun v s1 ⟨x,H1,I1,r1,q1⟩=>thn (hb pins s1 σ H1 _ I1 q1) fun u s2 ⟨y,H2,I2,r2,q2⟩=>
  thn (ho pins s2 σ H2 x y v u _ I2 r1 r2 q2) fun c s3 ⟨z,H3,I3,r3,k,e,q3⟩=>?_) hm
 subst e
 cases r3
 exact wpAny_truthy_bool ⟨H3,I3,q3⟩
def tChain (r r':R2) (ta tb tc:TE):TE:=fun σ H Q=>ta σ H fun x H1=>tb σ H1 fun y H2=>r x y H2 fun z H3=>∃ k,z=.bl k ∧
 (if k=true then tc σ H3 fun w' H4=>r' y w' H4 Q else Q (.bl false) H3)
theorem pt_chain {op op':CmpOp}{r r':R2} (ho:OpR X (compareOp op) r) (ho':OpR X (compareOp op') r') (ha:PE X a ta) (hb:PE X b tb) (hc:PE X c tc)
  (hm:lastMarks [op,op'] [b,c]=false:=by with_unfolding_all rfl):PT X (.Compare a [op,op'] [b,c] pos) (tTest (tChain r r' ta tb tc)):=by
 intro pins s σ H Q I h
 refine isTrue_chain (thn (ha pins s σ H _ I h) fun v s1 ⟨x,H1,I1,r1,q1⟩=>test_link (thn (hb pins s1 σ H1 _ I1 q1) fun u s2 ⟨y,H2,I2,r2,q2⟩=>
  thn (ho pins s2 σ H2 x y v u _ I2 r1 r2 q2) fun d s3 ⟨z,H3,I3,r3,k,e,q3⟩=>?_)) hm
 subst e
 cases r3
 refine wpAny_truthy_bool ?_
 cases k with
 | false=>
  obtain⟨k',e',q'⟩:=q3
  cases e'
  exact ite_ff ⟨H3,I3,q'⟩
 | true=>
  refine ite_tt (test_last (thn (hc pins s3 σ H3 _ I3 q3) fun w' s4 ⟨z',H4,I4,r4,q4⟩=>thn (ho' pins s4 σ H4 y z' u w' _ I4 r2 r4 q4) fun d' s5 ⟨z2,H5,I5,r5,k2,e2,q5⟩=>?_))
  subst e2
  cases r5
  exact wpAny_truthy_bool ⟨H5,I5,q5⟩
def TruV (K:PySem.W.Frag) (x:V) (H:Hp) (k:Bool):Prop:=
 match x with
 | .non=>k=false
 | .bl b=>k=b
 | .int i=>k=(i != 0)
 | .str y=>y.length≤sizeLine∧k=((y.length:Int) != 0)
 | .byt y=>y.size≤sizeLine∧k=((y.size:Int) != 0)
 | .ref p=>(∃ xs,SqL K H p xs∧k=!xs.isEmpty)∨(∃ xs,SqT K H p xs∧k=!xs.isEmpty)∨∃ kvs,H p=some (.dK kvs)∧k=!kvs.isEmpty
 | _=>False
theorem isEmpty_kv {κ:Type}{kvs:List (κ×V)}{vs:List (κ×Value)} (r:KV kvs vs):(!vs.isEmpty)=!kvs.isEmpty:=by
 cases r<;>rfl
theorem zde {xs:List V}{its:List Value} (r:Vals xs its):(!its.toArray.isEmpty)=!xs.isEmpty:=by
 cases r<;>simp
theorem zcB:(sizeLine:Nat)<2 ^ 63:=by rw[sizeLine_eq];decide
theorem tru_ok:TruR X (fun x H Q=>∃ k,TruV X.K x H k∧Q k H):=by
 intro pins s σ H x v Q I rx h
 obtain⟨k,e,q⟩:=h
 have hl:=zcB
 have hs:sizeLine=16777216:=sizeLine_eq
 cases x with
 | non=>
  cases rx
  have e':k=false:=e
  subst e'
  exact truthy_none ⟨H,I,q⟩
 | bl b=>
  cases rx
  have e':k=b:=e
  subst e'
  exact wpAny_truthy_bool ⟨H,I,q⟩
 | int i=>
  obtain⟨t,rfl⟩:=rx
  have e':k=(i != 0):=e
  subst e'
  exact PySem.P.truthy_int ⟨H,I,q⟩
 | str y=>
  obtain⟨t,rfl⟩:=rx
  obtain⟨hy,e'⟩:y.length≤sizeLine∧k=((y.length:Int) != 0):=e
  subst e'
  exact PySem.P.truthy_str (by omega) ⟨H,I.tok _,q⟩
 | byt y=>
  obtain⟨t,rfl⟩:=rx
  obtain⟨hy,e'⟩:y.size≤sizeLine∧k=((y.size:Int) != 0):=e
  subst e'
  exact PySem.W.truthy_bytes (by omega) ⟨H,I.tok _,q⟩
 | ref p=>
  cases rx
  have e':(∃ xs,SqL X.K H p xs∧k=!xs.isEmpty)∨(∃ xs,SqT X.K H p xs∧k=!xs.isEmpty)∨∃ kvs,H p=some (.dK kvs)∧k=!kvs.isEmpty:=e
  rcases e' with ⟨xs,hx,e'⟩ | ⟨xs,hx,e'⟩ | ⟨kvs,hx,e'⟩
  ·subst e'
   obtain⟨its,r,pl,hz⟩:=I.list hx
   have hlen:=r.length
   exact wpAny_truthy_list pl.isList (by simp only[List.size_toArray];omega) ⟨H,I.tok _,by rw[zde r];exact q⟩
  ·subst e'
   obtain⟨its,r,pl,hz⟩:=I.tuple hx
   have hlen:=r.length
   exact truthy_tuple pl (by simp only[List.size_toArray];omega) ⟨H,I.tok _,by rw[zde r];exact q⟩
  ·subst e'
   obtain⟨hz,hS,vs,r,m⟩:kvs.length≤sizeLine∧(p==sysModules)=false∧∃ vs,KV kvs vs∧s.heap.DictOf (mixKind X.prog X.w) p vs:=I.hok p _ hx
   have hlen:kvs.length=vs.length:=Paired.length r
   exact wpAny_truthy_dict hS m (by omega) ⟨H,I.tok _,by rw[isEmpty_kv r];exact q⟩
 | _=>exact(show False from e).elim
theorem pt_truth (ha:PE X a ta) (he:∀ whole,isTrue a X.env whole=(do let v ← whole;standAt a.pos;holding [v] (truthy v))) :
  PT X a (fun σ H Q=>ta σ H fun x H'=>∃ k,TruV X.K x H' k∧Q k H'):=by
 intro pins s σ H Q I h
 exact isTrue_plain (thn (ha pins s σ H _ I h) fun v s1 ⟨x,H1,I1,r1,q1⟩=>tru_ok pins s1 σ H1 x v Q I1 r1 q1) (he _)
theorem op_add_str:OpR X (binaryOp .Add) (fun x y H Q=>∃ i j,x=.str i∧y=.str j∧i.length+j.length≤sizeLine∧Q (.str (i++j)) H):=by
 intro pins s σ H x y v u Q I rx ry h
 obtain⟨i,j,rfl,rfl,hz,q⟩:=h
 obtain⟨t,rfl⟩:=rx
 obtain⟨t',rfl⟩:=ry
 exact add_str (fun t' tk=>⟨.str (i++j),H,I.tok _,⟨_,rfl⟩,q⟩) hz
theorem zeb {x:V}{us:List Value} (r:Vals [x] us):∃ u,us=[u]∧RelV x u:=by
 cases r with
 | cons r1 r2=>cases r2;exact⟨_,rfl,r1⟩
theorem vals2 {x y:V}{us:List Value} (r:Vals [x,y] us):∃ u w',us=[u,w']∧RelV x u∧RelV y w':=by
 cases r with
 | cons r1 r2=>
  cases r2 with
  | cons r3 r4=>cases r4;exact⟨_,_,rfl,r1,r3⟩
theorem call_abs:CallR X (.builtin "abs") (fun xs H Q=>∃ i,xs=[.int i]∧Q (.int (if i<0 then -i else i)) H):=by
 intro pins s σ H xs us Q I r h
 obtain⟨i,rfl,q⟩:=h
 obtain⟨u,rfl,t,rfl⟩:=zeb r
 exact call_abs_int fun u tk=>⟨.int (if i<0 then -i else i),H,I.tok _,⟨_,rfl⟩,q⟩
theorem call_max2 (hc:X.calm=true):CallR X (.builtin "max") (fun xs H Q=>∃ i j,xs=[.int i,.int j]∧Q (.int (if j > i then j else i)) H):=by
 intro pins s σ H xs us Q I r h
 obtain⟨i,j,rfl,q⟩:=h
 obtain⟨u,w',rfl,⟨t,rfl⟩,⟨t',rfl⟩⟩:=vals2 r
 refine max_two_ints (I.ok.hd hc) fun h' tk k=>⟨_,H,I.kept k,?_,q⟩
 by_cases hj:j > i
 ·rw[if_pos hj,if_pos hj];exact⟨_,rfl⟩
 ·rw[if_neg hj,if_neg hj];exact⟨_,rfl⟩
theorem call_int1:CallR X (.type "int") (fun xs H Q=>(∃ i,xs=[.int i]∧Q (.int i) H)∨∃ k,xs=[.bl k]∧Q (.int (if k then 1 else 0)) H):=by
 intro pins s σ H xs us Q I r h
 rcases h with ⟨i,rfl,q⟩ | ⟨k,rfl,q⟩
 ·obtain⟨u,rfl,t,rfl⟩:=zeb r
  exact call_int_int ⟨.int i,H,I,⟨_,rfl⟩,q⟩
 ·obtain⟨u,rfl,r1⟩:=zeb r
  cases r1
  exact call_int_bool ⟨.int (if k then 1 else 0),H,I.tok _,⟨_,rfl⟩,q⟩
def LenV (K:PySem.W.Frag) (x:V) (H:Hp) (n:Nat):Prop:=
 match x with
 | .str y=>y.length≤sizeLine∧n=y.length
 | .byt y=>y.size≤sizeLine∧n=y.size
 | .ref p=>(∃ xs,SqL K H p xs∧n=xs.length)∨∃ xs,SqT K H p xs∧n=xs.length
 | _=>False
theorem call_len:CallR X (.builtin "len") (fun xs H Q=>∃ x n,xs=[x]∧LenV X.K x H n∧Q (.int n) H):=by
 intro pins s σ H xs us Q I r h
 obtain⟨x,n,rfl,e,q⟩:=h
 obtain⟨u,rfl,rx⟩:=zeb r
 have hl:=zcB
 have hs:sizeLine=16777216:=sizeLine_eq
 cases x with
 | str y=>
  obtain⟨t,rfl⟩:=rx
  obtain⟨hy,e'⟩:y.length≤sizeLine∧n=y.length:=e
  subst e'
  exact len_str (by omega) ⟨.int _,H,I.tok _,⟨_,rfl⟩,q⟩
 | byt y=>
  obtain⟨t,rfl⟩:=rx
  obtain⟨hy,e'⟩:y.size≤sizeLine∧n=y.size:=e
  subst e'
  exact PySem.W.len_bytes (by omega) ⟨.int _,H,I.tok _,⟨_,rfl⟩,q⟩
 | ref p=>
  cases rx
  have e':(∃ xs,SqL X.K H p xs∧n=xs.length)∨∃ xs,SqT X.K H p xs∧n=xs.length:=e
  rcases e' with ⟨xs,hx,e'⟩ | ⟨xs,hx,e'⟩
  ·subst e'
   obtain⟨its,r',pl,hz⟩:=I.list hx
   have hlen:=r'.length
   exact Calls.call_len_list pl.isList (by simp only[List.size_toArray];omega) ⟨.int xs.length,H,I.tok _,⟨_,by simp only[List.size_toArray];rw[hlen]⟩,q⟩
  ·subst e'
   obtain⟨its,r',pl,hz⟩:=I.tuple hx
   have hlen:=r'.length
   exact len_tuple pl (by simp only[List.size_toArray];omega) ⟨.int xs.length,H,I.tok _,⟨_,by simp only[List.size_toArray];rw[hlen]⟩,q⟩
 | _=>exact(show False from e).elim
end
end L2
namespace L2
open PySem PySem.Spec PyProof.Rows
structure ObjM (h:Heap) (x dx C:Addr) (mA:Str→Option Value):Prop where
 obj:h.get? x=some (PySem.W.instObj C dx)
 ns:h.Ns1 dx mA
 ne:dx≠x
theorem lookIn_ns {h:Heap}{dx:Addr}{mA:Str→Option Value} (n:h.Ns1 dx mA):∃ od,h.get? dx=some od∧∀ name,PySem.W.lookIn name od=some (mA name):=by
 obtain⟨o,es,ep,ho,hd,hk,_,hm⟩:=n
 refine⟨o,ho,fun name=>?_⟩
 have e:=hm name
 unfold nsFind findBy at e
 rw[← Array.find?_toList] at e
 unfold PySem.W.lookIn
 rw[hd]
 dsimp only
 split
 ·rename_i y q
  rw[q] at e
  exact congrArg some e
 ·rename_i q
  rw[q] at e
  have a:es.toList.any (·.refKey)=false:=by
   rw[List.any_eq_false]
   intro y hy
   obtain⟨z,t,hkey⟩:=hk y (Array.mem_toList_iff.mp hy)
   simp [DictEntry.refKey,hkey]
  have a':¬ es.toList.any (·.refKey)=true:=by rw[a];exact Bool.false_ne_true
  rw[if_neg a']
  exact congrArg some e
theorem ObjM.look {h:Heap}{x dx C:Addr}{mA:Str→Option Value} (I:ObjM h x dx C mA):∃ od,PySem.W.InstAt h x (PySem.W.instObj C dx) C (some od)∧∀ name,PySem.W.lookIn name od=some (mA name):=
 let ⟨od,ho,hl⟩:=lookIn_ns I.ns
 ⟨od,⟨I.obj,rfl,rfl,ho⟩,hl⟩
section
variable {prog:Program}{w:World}{A:Around}{E:Value→Shared→Prop}{s:Shared}{K:PySem.W.Frag}{x dx C f:Addr}{mA:Str→Option Value}{name:Str}{v:Value}
theorem get_map {expr:Bool}{Q:Value→Shared→Prop} (X:K.In s.heap) (I:ObjM s.heap x dx C mA) (hg:PySem.W.plainGet K C name=true) (hh:PySem.W.hasDictIn K C=true)
  (ha:PySem.W.findIn K (.ref C) name=some none) (hv:mA name=some v) (hv':PySem.W.handedIn v=true) (h:Q v { s with toks:=s.toks+1 }) :
  wpAny (model prog w) A (getAttr (.ref x) name expr) Q E s:=by
 obtain⟨od,J,hl⟩:=I.look
 exact PySem.W.get_value X J (PySem.W.plainGet_of hg).1 (PySem.W.findObj_own hh ha rfl (by rw[hl,hv])) hv' h
theorem get_meth {pl:Sem Bool}{Q:Value×List Value→Shared→Prop} (X:K.In s.heap) (I:ObjM s.heap x dx C mA) (hg:PySem.W.plainGet K C name=true)
  (hf:PySem.W.findIn K (.ref C) name=some (some (.ref f))) (ht:PySem.W.isFn K (.ref f)=true) (hv:mA name=none) (h:Q (.ref f,[.ref x]) s) :
  wpAny (model prog w) A (getMethod (.ref x) name pl) Q E s:=by
 obtain⟨od,J,hl⟩:=I.look
 exact PySem.W.method_fn X J (PySem.W.plainGet_of hg).1 (PySem.W.plainGet_of hg).2 hf (beq_iff_eq.mp ht) (by show(PySem.W.lookIn name od).map (·.isSome)=some false;rw[hl,hv];rfl) h
theorem set_map {ns:List Str}{Q:Unit→Shared→Prop} (X:K.In s.heap) (I:ObjM s.heap x dx C mA)
  (hs:PySem.W.findIn K (.ref C) "__setattr__"=some (some (.builtin "object.__setattr__"))) (hp:PySem.W.plainOver K C=true) (ht:PySem.W.takerIn K C name=some none) (hh:PySem.W.hasDictIn K C=true)
  (hw:PySem.Within mA ns) (hsz:ns.length≤sizeLine)
  (h:∀ h',ObjM h' x dx C (fun y=>if y=name then some v else mA y)→Heap.SameBut dx s.heap h'→Q () { s with heap:=h',toks:=s.toks+2 }) :
  wpAny (model prog w) A (setAttr (.ref x) name v) Q E s:=by
 obtain⟨od,J,hl⟩:=I.look
 refine PySem.W.set_plain X J hs (PySem.W.osa_open (s:={ s with toks:=s.toks+1 }) (r:=none) X J hp ht fun b=>?_)
 obtain⟨cd,hc,hd'⟩:=PySem.W.any_some hh
 have hx:s.heap.get? x=some ⟨.ref C,some dx,.plain,#[]⟩:=I.obj
 refine wpAny_bind (wpAny_pure (wpAny_bind (wpAny_bind (wpAny_loadPart hx (wpAny_bind (PySem.W.Looks.here (s:={ s with toks:=s.toks+1 }) (PySem.W.looks_clsIn X hc) ?_))))))
 rw[hd']
 refine wpAny_pure (a:=some dx) (wpAny_bind (wpAny_pure (wpAny_bind ?_)))
 refine wpAny_nsSet1 (s:={ s with toks:=s.toks+1 }) I.ns fun h' hn2 hs2=>?_
 obtain⟨oD,esD,epD,hoD,hdD,hcD⟩:=hn2.count (PySem.Within.cons name v hw)
 refine wpAny_bind (wpAny_lookBehind hoD (by rw[hdD];exact pastItsLine_dict (Nat.le_trans hcD (by rw[List.length_cons];omega))) ?_)
 exact wpAny_pure (h _ ⟨(hs2.2 _ (Ne.symm I.ne)).trans I.obj,hn2,I.ne⟩ hs2)
theorem make_map {R:Result→Shared→Prop}{vs:List Value}{kw:List (Str×Value)} (X:K.In s.heap) (hm:PySem.W.makesIn K C=true)
  (hi:PySem.W.findIn K (.ref C) "__init__"=some (some (.ref f))) (hf:PySem.W.typeIn K (.ref f)=some (.type "function"))
  (h:codeAny (model prog w) (A.under (.builtin "type.__call__" ⟨.ref C::vs,kw⟩)) (.call (.ref f) ⟨.ref (s.heap.objs.size+1)::vs,kw⟩) (PySem.W.InitBack (s.heap.objs.size+1) R)
   { s with heap:=(s.heap.push PySem.W.emptyDict).push (PySem.W.instObj C s.heap.objs.size) }) :
  codeAny (model prog w) A (.call (.ref C) ⟨vs,kw⟩) R s:=by
 obtain⟨hh,g,d,t,os⟩:=s
 exact PySem.W.make_core (PySem.W.makes_of X hm) (PySem.W.looks_findIn X hi) (fun self=>PySem.W.bind_fn X self hf) (.inl rfl) h
end
def putF (f:Str) (v:V):List (Str×V)→List (Str×V)
 | []=>[(f,v)]
 | (g,x)::r=>if g=f then (g,v)::r else (g,x)::putF f v r
theorem zcA (f g:Str) (v:V):∀ fs:List (Str×V),(putF f v fs).lookup g=if g=f then some v else fs.lookup g
 | []=>by
  show List.lookup g [(f,v)]=_
  by_cases h:g=f
  ·have hb:(g==f)=true:=beq_iff_eq.mpr h
   simp only[List.lookup,hb,if_pos h]
  ·have hb:(g==f)=false:=beq_eq_false_iff_ne.mpr h
   simp only[List.lookup,hb,if_neg h]
 | (k,x)::r=>by
  have ih:=zcA f g v r
  rw[show putF f v ((k,x)::r)=(if k=f then (k,v)::r else (k,x)::putF f v r) from rfl]
  by_cases hk:k=f
  ·rw[if_pos hk]
   by_cases h:g=k
   ·have hb:(g==k)=true:=beq_iff_eq.mpr h
    simp only[List.lookup,hb,if_pos (h.trans hk)]
   ·have hb:(g==k)=false:=beq_eq_false_iff_ne.mpr h
    simp only[List.lookup,hb,if_neg (fun e:g=f=>h (e.trans hk.symm))]
  ·rw[if_neg hk]
   by_cases h:g=k
   ·have hb:(g==k)=true:=beq_iff_eq.mpr h
    simp only[List.lookup,hb,if_neg (fun e:g=f=>hk (h.symm.trans e))]
   ·have hb:(g==k)=false:=beq_eq_false_iff_ne.mpr h
    simp only[List.lookup,hb]
    exact ih
theorem zcF (f:Str) (v:V):∀ fs:List (Str×V),f∈(putF f v fs).map (·.1)∧∀ g,g∈fs.map (·.1)→g∈(putF f v fs).map (·.1)
 | []=>⟨by simp [putF],fun g h=>by simp at h⟩
 | (k,x)::r=>by
  obtain⟨i1,i2⟩:=zcF f v r
  rw[show putF f v ((k,x)::r)=(if k=f then (k,v)::r else (k,x)::putF f v r) from rfl]
  by_cases hk:k=f
  ·rw[if_pos hk]
   subst hk
   exact⟨by simp,fun g h=>by simpa using h⟩
  ·rw[if_neg hk]
   refine⟨?_,fun g h=>?_⟩
   ·rw[List.map_cons]
    exact List.mem_cons_of_mem _ i1
   ·rw[List.map_cons] at h ⊢
    rcases List.mem_cons.mp h with e | e
    ·exact List.mem_cons.mpr (.inl e)
    ·exact List.mem_cons_of_mem _ (i2 g e)
theorem zcC (f:Str) (v:V):∀ fs:List (Str×V),(putF f v fs).length≤fs.length+1
 | []=>by simp [putF]
 | (k,x)::r=>by
  have ih:=zcC f v r
  rw[show putF f v ((k,x)::r)=(if k=f then (k,v)::r else (k,x)::putF f v r) from rfl]
  by_cases hk:k=f
  ·rw[if_pos hk,List.length_cons,List.length_cons];omega
  ·rw[if_neg hk,List.length_cons,List.length_cons];omega
theorem RelO.some_of {v:V}{o:Option Value} (r:RelO (some v) o):∃ u,o=some u∧RelV v u:=by
 cases o with
 | none=>exact(show False from r).elim
 | some u=>exact⟨u,rfl,r⟩
theorem RelO.none_of {o:Option Value} (r:RelO none o):o=none:=by
 cases o with
 | none=>rfl
 | some u=>exact(show False from r).elim
theorem handed_of {v:V}{u:Value} (r:RelV v u):PySem.W.handedIn u=true:=by
 cases v with
 | non=>cases (show u=Value.none from r);rfl
 | bl b=>cases (show u=Value.bool b from r);rfl
 | int i=>obtain⟨t,e⟩:=(show ∃ t,u=Value.int i t from r);cases e;rfl
 | str x=>obtain⟨t,e⟩:=(show ∃ t,u=Value.str x t from r);cases e;rfl
 | byt b=>obtain⟨t,e⟩:=(show ∃ t,u=Value.bytes b t from r);cases e;rfl
 | flt b=>obtain⟨t,e⟩:=(show ∃ t,u=Value.float b t from r);cases e;rfl
 | ref a=>cases (show u=Value.ref a from r);rfl
 | ty n=>cases (show u=Value.type n from r);rfl
section
variable {P:Program}{w:World}{H H':Hp}{h h':Heap}{a C dx:Addr}{fs fs':List (Str×V)}
theorem zdK (hok:HOk P w H h) (e:H a=some (.ins C dx fs)):∃ mA,ObjM h a dx C mA∧(∀ f,RelO (fs.lookup f) (mA f))∧PySem.Within mA (fs.map (·.1))∧fs.length≤1000∧H dx=some (.own a):=by
 obtain⟨d,z,ne,ob,mA,n,r,q⟩:=(show ObjOk P w H h a (.ins C dx fs) from hok a _ e)
 exact⟨mA,⟨ob,n,ne⟩,r,q,z,d⟩
end
structure Cls (K:PySem.W.Frag) (C:Addr):Prop where
 pg:PySem.W.plainGet K C Str.empty=true
 hd:PySem.W.hasDictIn K C=true
 po:PySem.W.plainOver K C=true
 sa:PySem.W.findIn K (.ref C) "__setattr__"=some (some (.builtin "object.__setattr__"))
theorem Cls.get {K:PySem.W.Frag}{C:Addr} (c:Cls K C) (f:Str):PySem.W.plainGet K C f=true:=c.pg
def NoAttr (K:PySem.W.Frag) (C:Addr) (f:Str):Prop:=PySem.W.findIn K (.ref C) f=some none
theorem NoAttr.taker {K:PySem.W.Frag}{C:Addr}{f:Str} (n:NoAttr K C f):PySem.W.takerIn K C f=some none:=by
 unfold PySem.W.takerIn
 rw[show PySem.W.findIn K (.ref C) f=some none from n]
 rfl
structure Meth (K:PySem.W.Frag) (C:Addr) (m:Str) (f:Addr):Prop where
 at_:PySem.W.findIn K (.ref C) m=some (some (.ref f))
 fn:PySem.W.isFn K (.ref f)=true
 kp:PySem.W.keepIn K (.ref f)=true
section
variable {X:Cx}{pins:List (Addr×Obj)}{σ:St}{H:Hp}{s:Shared}{a C dx:Addr}{fs:List (Str×V)}{f:Str}{v:V}{A:Around}{E:Value→Shared→Prop}
theorem zdf {b:Bool}{Q:Value→Shared→Prop} (I:Inv X pins σ H s) (e:H a=some (.ins C dx fs)) (c:Cls X.K C) (n:NoAttr X.K C f) (l:fs.lookup f=some v)
  (h:∀ u s',Inv X pins σ H s'→RelV v u→Q u s'):wpAny (model X.prog X.w) A (getAttr (.ref a) f b) Q E s:=by
 obtain⟨mA,O,r,_,_,_⟩:=zdK I.hok e
 obtain⟨u,hu,ru⟩:=RelO.some_of (v:=v) (o:=mA f) (by rw[← l];exact r f)
 exact get_map I.kIn O (c.get f) c.hd n hu (handed_of ru) (h u _ (I.tok _) ru)
theorem zbX {m:Str}{g:Addr}{pl:Sem Bool}{Q:Value×List Value→Shared→Prop} (I:Inv X pins σ H s) (e:H a=some (.ins C dx fs)) (c:Cls X.K C) (k:Meth X.K C m g) (l:fs.lookup m=none)
  (h:Q (.ref g,[.ref a]) s):wpAny (model X.prog X.w) A (getMethod (.ref a) m pl) Q E s:=by
 obtain⟨mA,O,r,_,_,_⟩:=zdK I.hok e
 have hn:mA m=none:=RelO.none_of (by rw[← l];exact r m)
 exact get_meth I.kIn O (c.get m) k.at_ k.fn hn h
theorem zcZ {y:V}{u:Value}{Q:Unit→Shared→Prop} (I:Inv X pins σ H s) (e:H a=some (.ins C dx fs)) (c:Cls X.K C) (n:NoAttr X.K C f) (hl:fs.length<1000) (ry:RelV y u)
  (h:∀ s',Inv X pins σ (upd H a (.ins C dx (putF f y fs))) s'→Q () s'):wpAny (model X.prog X.w) A (setAttr (.ref a) f u) Q E s:=by
 obtain⟨mA,O,r,wi,_,ho⟩:=zdK I.hok e
 have hz:(fs.map (·.1)).length≤sizeLine:=by rw[List.length_map,sizeLine_eq];omega
 refine set_map I.kIn O c.sa c.po n.taker c.hd wi hz fun h' O' sb=>h _ ?_
 have hd:∃ o,h'.get? dx=some o:=let ⟨o,_,_,e',_⟩:=O'.ns;⟨o,e'⟩
 refine I.write (x:=a) (e:=dx) (by rw[e];exact True.intro) (.inr ho) (fun b q hb z=>(sb.2 b hb).trans z) hd ?_
 refine⟨by rw[zac O.ne];exact ho,?_,O.ne,O'.obj,_,O'.ns,fun g=>?_,fun g hg=>?_⟩
 ·have:=zcC f y fs;omega
 ·show RelO ((putF f y fs).lookup g) (if g=f then some u else mA g)
  rw[zcA]
  by_cases q:g=f
  ·rw[if_pos q,if_pos q];exact ry
  ·rw[if_neg q,if_neg q];exact r g
 ·by_cases q:g=f
  ·rw[q];exact(zcF f y fs).1
  ·refine(zcF f y fs).2 g (wi g fun z=>hg ?_)
   show(if g=f then some u else mA g)=none
   rw[if_neg q];exact z
theorem Inv.made (I:Inv X pins σ H s):Inv X pins σ (upd (upd H s.heap.objs.size (.own (s.heap.objs.size+1))) (s.heap.objs.size+1) (.ins C s.heap.objs.size []))
  { s with heap:=(s.heap.push PySem.W.emptyDict).push (PySem.W.instObj C s.heap.objs.size) }:=by
 have e1:(s.heap.push PySem.W.emptyDict).get? s.heap.objs.size=some PySem.W.emptyDict:=Heap.get?_push_size s.heap rfl
 have e2:((s.heap.push PySem.W.emptyDict).push (PySem.W.instObj C s.heap.objs.size)).get? (s.heap.objs.size+1)=some (PySem.W.instObj C s.heap.objs.size):=by
  have:=Heap.get?_push_size (s.heap.push PySem.W.emptyDict) (o:=PySem.W.instObj C s.heap.objs.size) rfl
  rwa [Heap.size_push] at this
 have e3:(s.heap.push PySem.W.emptyDict).Ns s.heap.objs.size (fun _=>none):=⟨PySem.W.emptyDict,#[],_,e1,rfl,(fun e he=>absurd he (by simp)),fun _=>rfl⟩
 have I1:=I.laid (a:=s.heap.objs.size) (o:=.own (s.heap.objs.size+1)) (h':=s.heap.push PySem.W.emptyDict) (t':=s.toks) (fun b u q=>Heap.get?_push_of_some _ q) (Nat.le_refl _) ⟨_,e1⟩
 refine I1.laid (a:=s.heap.objs.size+1) (o:=.ins C s.heap.objs.size []) (t':=s.toks) (fun b u q=>Heap.get?_push_of_some _ q) (Nat.le_of_eq (Heap.size_push _ _)) ?_
 have ne:s.heap.objs.size≠s.heap.objs.size+1:=Nat.ne_of_lt (Nat.lt_succ_self _)
 refine⟨by rw[zac ne,zab],Nat.zero_le _,ne,e2,fun _=>none,(Heap.Ns1.of_empty e3).at fun o q=>Heap.get?_push_of_some _ q,fun _=>True.intro,fun y hy=>absurd rfl hy⟩
theorem attr_of {prog:Program}{w:World}{env:Env}{e:Expr}{f:Str}{pos:Pos}{s:Shared}{Q:Value→Shared→Prop} (hb:attributeBase e f env (eval e env)=eval e env)
  (h:wpAny (model prog w) A (eval e env) (fun o s₁=>wpAny (model prog w) A (getAttr o f true) Q E s₁) E s):wpAny (model prog w) A (eval (.Attribute e f pos) env) Q E s:=
 Attribute_any_ h (by rw[arm_eval_Attribute,hb])
end
def tFld (K:PySem.W.Frag) (ta:TE) (f:Str):TE:=fun σ H Q=>ta σ H fun x H1=>∃ a C dx fs v,x=.ref a∧H1 a=some (.ins C dx fs)∧Cls K C∧NoAttr K C f∧fs.lookup f=some v∧Q v H1
def sFld (K:PySem.W.Frag) (ta tv:TE) (f:Str):TS:=fun D σ H=>tv σ H fun y H1=>ta σ H1 fun x H2=>∃ a C dx fs,x=.ref a∧H2 a=some (.ins C dx fs)∧Cls K C∧NoAttr K C f∧fs.length<1000 ∧
 D.nx σ (upd H2 a (.ins C dx (putF f y fs)))
def InOp (X:Cx) (op:Operator) (rd:V→V→Hp→VK→Prop):Prop:=
 ∀ (pins:List (Addr×Obj)) (s:Shared) (σ:St) (H:Hp) (x y:V) (u v:Value) (Q:VK),Inv X pins σ H s→RelV x u→RelV y v→rd x y H Q→wpAny (model X.prog X.w) X.A (inplaceOp op u v) (EP X pins σ Q) X.xe s
def sFldAug (K:PySem.W.Frag) (ta tv:TE) (rd:V→V→Hp→VK→Prop) (f:Str):TS:=fun D σ H=>ta σ H fun x H1=>∃ a C dx fs v,x=.ref a∧H1 a=some (.ins C dx fs)∧Cls K C∧NoAttr K C f∧fs.lookup f=some v ∧
 tv σ H1 fun y H2=>rd v y H2 fun z H3=>∃ dx' fs',H3 a=some (.ins C dx' fs')∧fs'.length<1000∧D.nx σ (upd H3 a (.ins C dx' (putF f z fs')))
section
variable {X:Cx}{o e value:Expr}{f:Str}{pos pos' tpos:Pos}{ta tv:TE}
theorem pe_fld (he:PE X e ta) (hb:attributeBase e f X.env (eval e X.env)=eval e X.env):PE X (.Attribute e f pos) (tFld X.K ta f):=by
 intro pins s σ H Q I h
 refine attr_of hb (thn (he pins s σ H _ I h) fun u s1 ⟨x,H1,I1,rx,a,C,dx,fs,v,ex,ea,c,n,l,q⟩=>?_)
 subst ex
 obtain rfl:u=Value.ref a:=rx
 exact zdf I1 ea c n l fun u' s2 I2 ru=>⟨v,H1,I2,ru,q⟩
theorem ps_fld (ha:PE X o ta) (hv:PE X value tv) (hs:swapsWith value (some (.Attribute o f pos')) pos.line X.env=pure false):PS X (.Assign [.Attribute o f pos'] value pos) (sFld X.K ta tv f):=by
 intro pins s σ H D I h
 refine plainObj_wpAny_Assign_Attribute (thn (hv pins s σ H _ I h) fun u s1 ⟨y,H1,I1,ry,q⟩=>thn (ha pins s1 σ H1 _ I1 q) fun ov s2 ⟨x,H2,I2,rx,a,C,dx,fs,ex,ea,c,n,l,q2⟩=>?_) hs
 subst ex
 obtain rfl:ov=Value.ref a:=rx
 exact zcZ I2 ea c n l ry fun s3 I3=>⟨σ,_,I3,q2⟩
theorem ps_fldaug {op:Operator}{rd:V→V→Hp→VK→Prop} (ha:PE X o ta) (hv:PE X value tv) (hop:InOp X op rd):PS X (.AugAssign (.Attribute o f tpos) op value pos) (sFldAug X.K ta tv rd f):=by
 intro pins s σ H D I h
 refine wpAny_AugAssign_AttributeAny (thn (ha pins s σ H _ I h) fun ov s1 ⟨x,H1,I1,rx,a,C,dx,fs,v,ex,ea,c,n,l,q⟩=>?_)
 subst ex
 obtain rfl:ov=Value.ref a:=rx
 refine zdf I1 ea c n l fun u s2 I2 ru=>thn (hv pins s2 σ H1 _ I2 q) fun w3 s3 ⟨y,H2,I3,ry,q3⟩=>thn (hop pins s3 σ H2 v y u w3 _ I3 ru ry q3) fun w4 s4 ⟨z,H3,I4,rz,dx',fs',ea',l',q4⟩=>?_
 exact zcZ I4 ea' c n l' rz fun s5 I5=>⟨σ,_,I5,q4⟩
def rAdd:V→V→Hp→VK→Prop:=fun x y H Q=>∃ i j,x=.int i∧y=.int j∧Q (.int (i+j)) H
def rSub:V→V→Hp→VK→Prop:=fun x y H Q=>∃ i j,x=.int i∧y=.int j∧Q (.int (i-j)) H
theorem in_add:InOp X .Add rAdd:=by
 rintro pins s σ H x y u v Q I rx ry ⟨i,j,rfl,rfl,q⟩
 obtain⟨t,rfl⟩:=(show ∃ t,u=Value.int i t from rx)
 obtain⟨t',rfl⟩:=(show ∃ t',v=Value.int j t' from ry)
 exact PyProof.Rows.iadd_int ⟨.int (i+j),H,I.tok _,⟨_,rfl⟩,q⟩
theorem in_sub:InOp X .Sub rSub:=by
 rintro pins s σ H x y u v Q I rx ry ⟨i,j,rfl,rfl,q⟩
 obtain⟨t,rfl⟩:=(show ∃ t,u=Value.int i t from rx)
 obtain⟨t',rfl⟩:=(show ∃ t',v=Value.int j t' from ry)
 exact PyProof.Rows.isub_int ⟨.int (i-j),H,I.tok _,⟨_,rfl⟩,q⟩
theorem methcall_of {pl:Sem Bool}{m:Str}{apos:Pos}{args:List Expr}{pins:List (Addr×Obj)}{s:Shared}{σ:St}{H:Hp}{Q:Value→Shared→Prop}{te:TE} (he:PE X e te) (I:Inv X pins σ H s)
  (h:te σ H fun x H1=>∃ a C dx fs g,x=.ref a∧H1 a=some (.ins C dx fs)∧Cls X.K C∧Meth X.K C m g∧fs.lookup m=none ∧
   ∀ s1,Inv X pins σ H1 s1→wpAny (model X.prog X.w) X.A (callWith pos (.ref g) [.ref a] (backTo pos (starEach args X.env)) (backToKw pos (keywordEach [] X.env))) Q X.xe s1)
  (ht:eval (.Call (.Attribute e m apos) args [] pos) X.env=(do
   let ov ← eval e X.env
   standAt apos.atName
   let (f,first) ← holding [ov] (getMethod ov m pl)
   callWith pos f first (backTo pos (starEach args X.env)) (backToKw pos (keywordEach [] X.env)))) :
  wpAny (model X.prog X.w) X.A (eval (.Call (.Attribute e m apos) args [] pos) X.env) Q X.xe s:=by
 refine PySem.W.methodCall_KW (pl:=pl) (thn (he pins s σ H _ I h) fun u s1 ⟨x,H1,I1,rx,a,C,dx,fs,g,ex,ea,c,k,l,q⟩=>?_) ht
 subst ex
 obtain rfl:u=Value.ref a:=rx
 exact zbX I1 ea c k l (q s1 I1)
end
section
variable {X:Cx}{pins:List (Addr×Obj)}{σ:St}{H:Hp}{s:Shared}{A:Around}{E:Value→Shared→Prop}{Q:Value→Shared→Prop}{c:Value}{b:Bool}
inductive TyOf (K:PySem.W.Frag) (H:Hp):V→Value→Prop where
 | non:TyOf K H .non (.type "NoneType")
 | bl (x:Bool):TyOf K H (.bl x) (.type "bool")
 | int (i:Int):TyOf K H (.int i) (.type "int")
 | str (x:Str):TyOf K H (.str x) (.type "str")
 | flt (x:UInt64):TyOf K H (.flt x) (.type "float")
 | lst {a:Addr}{xs:List V} (e:H a=some (.lst xs)):TyOf K H (.ref a) (.type "list")
 | frz {a:Addr}{o:Obj}{xs:List V} (e:H a=some (.frz o (.lst xs))):TyOf K H (.ref a) (.type "list")
 | tup {a:Addr}{xs:List V} (e:H a=some (.tup xs)):TyOf K H (.ref a) (.type "tuple")
 | dK {a:Addr}{kvs:List (Key×V)} (e:H a=some (.dK kvs)):TyOf K H (.ref a) (.type "dict")
 | dT {a:Addr}{kvs:List (List Key×V)} (e:H a=some (.dT kvs)):TyOf K H (.ref a) (.type "dict")
 | ins {a C dx:Addr}{fs:List (Str×V)} (e:H a=some (.ins C dx fs)) (cl:Cls K C) (ha:PySem.W.findIn K (.ref C) "__class__"=some (some (.builtin "object.__class__")))
   (hn:PySem.W.specialIn K (.builtin "object.__class__") "__get__"=some (some (.builtin "getset_descriptor.__get__"))) (htk:PySem.W.takesIn K (.builtin "object.__class__")=some true)
   (hm:PySem.W.mroIn K C (.type "object")=some true):TyOf K H (.ref a) (.ref C)
theorem isinst_ok {x:V}{u t:Value} (I:Inv X pins σ H s) (rx:RelV x u) (ty:TyOf X.K H x t) (e:PySem.W.kitOne X.K t c=some b) (h:∀ tk,Q (.bool b) { s with toks:=tk }) :
  wpAny (model X.prog X.w) A (call (.builtin "isinstance") [u,c]) Q E s:=by
 cases ty with
 | non=>cases (show u=Value.none from rx);exact PySem.W.kia_one PySem.W.kitx_none I.kIn True.intro e (fun z=>nomatch z) h
 | bl y=>cases (show u=Value.bool y from rx);exact PySem.W.kia_one PySem.W.kitx_bool I.kIn True.intro e (fun z=>nomatch z) h
 | int i=>obtain⟨t,q⟩:=(show ∃ t,u=Value.int i t from rx);cases q;exact PySem.W.kia_one PySem.W.kitx_int I.kIn True.intro e (fun z=>nomatch z) h
 | str y=>obtain⟨t,q⟩:=(show ∃ t,u=Value.str y t from rx);cases q;exact PySem.W.kia_one PySem.W.kitx_str I.kIn True.intro e (fun z=>nomatch z) h
 | flt y=>obtain⟨t,q⟩:=(show ∃ t,u=Value.float y t from rx);cases q;exact PySem.W.kia_one PySem.W.kitx_float I.kIn True.intro e (fun z=>nomatch z) h
 | @lst a xs ea=>
  cases (show u=Value.ref a from rx)
  obtain⟨_,_,n,_,h1⟩:=(show ObjOk X.prog X.w H s.heap a (.lst xs) from I.hok a _ ea)
  exact PySem.W.kia_one PySem.W.kitx_list I.kIn ⟨_,h1,rfl⟩ e (fun z=>nomatch z) h
 | @frz a ob xs ea=>
  cases (show u=Value.ref a from rx)
  obtain⟨_,_,_,n,_,h1⟩:=(show ObjOk X.prog X.w H s.heap a (.frz ob (.lst xs)) from I.hok a _ ea)
  exact PySem.W.kia_one PySem.W.kitx_list I.kIn ⟨_,h1,rfl⟩ e (fun z=>nomatch z) h
 | @tup a xs ea=>
  cases (show u=Value.ref a from rx)
  obtain⟨_,_,_,p⟩:=(show ObjOk X.prog X.w H s.heap a (.tup xs) from I.hok a _ ea)
  obtain⟨o,h1,h2,_⟩:=p
  exact PySem.W.kia_one PySem.W.kitx_tuple I.kIn ⟨o,h1,h2⟩ e (fun z=>nomatch z) h
 | @dK a kvs ea=>
  cases (show u=Value.ref a from rx)
  obtain⟨_,_,vs,_,p⟩:=(show ObjOk X.prog X.w H s.heap a (.dK kvs) from I.hok a _ ea)
  obtain⟨o,es,ep,h1,h2,_⟩:=p
  exact PySem.W.kia_one PySem.W.kitx_dict I.kIn ⟨o,h1,h2.1⟩ e (fun z=>nomatch z) h
 | @dT a kvs ea=>
  cases (show u=Value.ref a from rx)
  obtain⟨_,_,xs,_,o,es,ep,h1,h2,_⟩:=(show ObjOk X.prog X.w H s.heap a (.dT kvs) from I.hok a _ ea)
  exact PySem.W.kia_one PySem.W.kitx_dict I.kIn ⟨o,h1,h2.1⟩ e (fun z=>nomatch z) h
 | @ins a C dx fs ea cl ha hn htk hm=>
  cases (show u=Value.ref a from rx)
  obtain⟨mA,O,_⟩:=zdK I.hok ea
  obtain⟨od,J,_⟩:=O.look
  exact PySem.W.kia_one (PySem.W.kitx_own (cl.get _) cl.hd ha hn htk hm) I.kIn J e (fun z=>nomatch z) h
end
end L2
namespace L2
open PySem PySem.Spec PyProof.Rows
structure Room (k:Nat) (A:Around):Prop where
 hd:A.handled=none
 dp:A.depth+3*k+5<recursionLimit
 un:A.units+16*k+200<cLine
theorem Room.mono {j k:Nat}{A:Around} (r:Room k A) (h:j≤k):Room j A:=⟨r.hd,by have:=r.dp;omega,by have:=r.un;omega⟩
theorem Room.deeper {k:Nat}{A:Around} (r:Room (k+1) A) (env:Env):Room k (A.deeper env):=
 ⟨r.hd,by have:=r.dp;show A.depth+1+3*k+5<_;omega,by have:=r.un;show A.units+3+16*k+200<_;omega⟩
theorem Room.in1 {k:Nat}{A:Around} (r:Room (k+1) A):Room k A.in1:=
 ⟨r.hd,by have:=r.dp;show A.depth+3*k+5<_;omega,by have:=r.un;show A.units+1+16*k+200<_;omega⟩
theorem make_depth {A:Around}{C:Addr}{us:List Value}{kw:List (Str×Value)}:(A.under (.builtin "type.__call__" ⟨.ref C::us,kw⟩)).depth=A.depth+1:=by
 first | rfl | simp [Around.under,Code.weight,Code.isCreation,Code.isGuard,Code.isCaller,Code.frames,Code.isFrame,guardIds]
theorem make_units {A:Around}{C:Addr}{us:List Value}{kw:List (Str×Value)}:(A.under (.builtin "type.__call__" ⟨.ref C::us,kw⟩)).units=A.units+1:=by
 first | rfl | simp [Around.under,Code.cUnits,Code.frames,Code.isFrame]
theorem Room.make {k:Nat}{A:Around} (r:Room (k+1) A) (C:Addr) (us:List Value) (kw:List (Str×Value)):Room k (A.under (.builtin "type.__call__" ⟨.ref C::us,kw⟩)):=
 ⟨r.hd,by have:=r.dp;rw[make_depth];omega,by have:=r.un;rw[make_units];omega⟩
theorem Room.depth {k:Nat}{A:Around} (r:Room k A):A.depth<recursionLimit:=by have:=r.dp;omega
theorem Room.units {k:Nat}{A:Around} (r:Room k A):A.units+64<cLine:=by have:=r.un;omega
def tNil:TA:=fun _ H Q=>Q [] H
def tCons (ta:TE) (tr:TA):TA:=fun σ H Q=>ta σ H fun x H1=>tr σ H1 fun xs H2=>Q (x::xs) H2
section
variable {X:Cx}{e:Expr}{es:List Expr}{te:TE}{t:TA}{pos:Pos}
theorem pa_nil:PA X [] tNil:=fun _ _ _ _ H Q I h=>Calls.spliced_nil ⟨[],H,I,.nil,h⟩
theorem zad (ha:PE X e te) (hr:PA X es t) (hs:starEach (e::es) X.env=(false,eval e X.env)::starEach es X.env:=by rfl):PA X (e::es) (tCons te t):=by
 intro pos pins s σ H Q I h
 rw[hs]
 show wpAny _ _ (spliced ((false,eval e X.env)::backTo pos (starEach es X.env))) _ _ s
 refine Calls.spliced_cons (thn (ha pins s σ H _ I h) fun u s1 ⟨x,H1,I1,r1,q1⟩=>?_)
 exact thn (hr pos pins s1 σ H1 _ I1 q1) fun us s2 ⟨xs,H2,I2,r2,q2⟩=>⟨x::xs,H2,I2,.cons r1 r2,q2⟩
def tTup (t:TA):TE:=fun σ H Q=>t σ H fun xs H1=>xs.length≤sizeLine∧∀ p,H1 p=none→Q (.ref p) (upd H1 p (.tup xs))
def tLst (t:TA):TE:=fun σ H Q=>t σ H fun xs H1=>xs.length≤sizeLine∧∀ p,H1 p=none→Q (.ref p) (upd H1 p (.lst xs))
theorem pe_tup {x1} (h:PA X es t):PE X (.Tuple es x1 pos) (tTup t):=by
 intro pins s σ H Q I hq
 refine wpAny_Tuple_spliced (thn (h pos pins s σ H _ I hq) fun us s1 ⟨xs,H1,I1,r,z,q⟩=>⟨by rw[← r.length];exact z,?_⟩)
 have hf:H1 s1.heap.objs.size=none:=I1.hok.fresh (Nat.le_refl _)
 refine⟨.ref s1.heap.objs.size,upd H1 s1.heap.objs.size (.tup xs),I1.laid (t':=s1.toks) (fun b u e=>Heap.get?_push_of_some _ e) (Nat.le_refl _) ?_,rfl,q _ hf⟩
 exact⟨z,us,r,⟨_,Heap.get?_push_size _ rfl,rfl,_,rfl⟩⟩
theorem pe_lst (h:PA X es t):PE X (.List es pos) (tLst t):=by
 intro pins s σ H Q I hq
 refine wpAny_List_spliced (thn (h pos pins s σ H _ I hq) fun us s1 ⟨xs,H1,I1,r,z,q⟩=>⟨by rw[← r.length];exact z,?_⟩)
 have hf:H1 s1.heap.objs.size=none:=I1.hok.fresh (Nat.le_refl _)
 refine⟨.ref s1.heap.objs.size,upd H1 s1.heap.objs.size (.lst xs),I1.laid (t':=s1.toks) (fun b u e=>Heap.get?_push_of_some _ e) (Nat.le_refl _) ?_,rfl,q _ hf⟩
 exact⟨z,us,0,r,Heap.get?_push_size _ rfl⟩
end
abbrev Sp:=List V→Hp→VK→XK→Prop
abbrev CXT:=List Env→Hp→Shared→XK→Value→Shared→Prop
structure Env0 (P:Program) (w:World) (K:PySem.W.Frag) (mg:Str→Option Value) (base:Heap) (A:Around) (outer:List Env) (s:Shared) (H:Hp):Prop where
 frames:A.frames=some outer
 mod:Mod K mg base
 bs:∀ b o,base.get? b=some o→s.heap.get? b=some o∧H b=none
 bsz:base.objs.size≤s.heap.objs.size
 funs:s.heap.FunFrames base outer
 frf:∀ b∈frs outer,H b=none
 hok:HOk P w H s.heap
 bare:AllBare s.gens
def CE (outer:List Env) (P:Program) (w:World) (H:Hp) (s:Shared) (Q:VK) (u:Value) (s':Shared):Prop:=
 ∃ v H',s'.os=s.os∧AllBare s'.gens∧Un (frs outer) [] H H' s.heap s'.heap∧HOk P w H' s'.heap∧RelV v u∧Q v H'
def CR (CX:CXT) (outer:List Env) (P:Program) (w:World) (H:Hp) (s:Shared) (Q:VK) (E:XK) (r:Result) (s':Shared):Prop:=
 match r with
 | .ok (.ret u)=>CE outer P w H s Q u s'
 | .ok _=>False
 | .error e=>CX outer H s E e s'
structure FnOk (P:Program) (w:World) (K:PySem.W.Frag) (mg:Str→Option Value) (base:Heap) (CX:CXT) (k:Nat) (f:Addr) (fd:FuncData) (ps:List Str) (sp:Sp):Prop where
 len:∀ vs H Q E,sp vs H Q E→vs.length=ps.length
 run:∀ (A:Around) (outer:List Env) (s:Shared) (H:Hp) (args:Args) (us:List Value) (vs:List V) (Q:VK) (E:XK),Room k A→Env0 P w K mg base A outer s H→BindsTo s fd args (ps.zip us)→Vals vs us→sp vs H Q E →
  codeAny (model P w) A (.call (.ref f) args) (CR CX outer P w H s Q E) s
theorem FnOk.mono {P:Program}{w:World}{K:PySem.W.Frag}{mg:Str→Option Value}{base:Heap}{CX:CXT}{j k:Nat}{f:Addr}{fd:FuncData}{ps:List Str}{sp:Sp} (F:FnOk P w K mg base CX j f fd ps sp) (h:j≤k) :
  FnOk P w K mg base CX k f fd ps sp:=⟨F.len,fun A outer s H args us vs Q E hr=>F.run A outer s H args us vs Q E (hr.mono h)⟩
theorem FnOk.imp {P:Program}{w:World}{K:PySem.W.Frag}{mg:Str→Option Value}{base:Heap}{CX:CXT}{k:Nat}{f:Addr}{fd:FuncData}{ps:List Str}{sp sp':Sp} (F:FnOk P w K mg base CX k f fd ps sp)
  (h:∀ vs H Q E,sp' vs H Q E→sp vs H Q E):FnOk P w K mg base CX k f fd ps sp':=
 ⟨fun vs H Q E q=>F.len vs H Q E (h _ _ _ _ q),fun A outer s H args us vs Q E hr he hb hv hs=>F.run A outer s H args us vs Q E hr he hb hv (h _ _ _ _ hs)⟩
theorem Env0.make {P:Program}{w:World}{K:PySem.W.Frag}{mg:Str→Option Value}{base:Heap}{A:Around}{outer:List Env}{s:Shared}{H:Hp} (e:Env0 P w K mg base A outer s H) (C:Addr) (us:List Value) (kw:List (Str×Value)) :
  Env0 P w K mg base (A.under (.builtin "type.__call__" ⟨.ref C::us,kw⟩)) outer s H:=⟨by first | exact e.frames | (simpa [Around.under,Code.envs,Code.isFrame,pushEnvs] using e.frames),e.mod,e.bs,e.bsz,e.funs,e.frf,e.hok,e.bare⟩
theorem Env0.in1 {P:Program}{w:World}{K:PySem.W.Frag}{mg:Str→Option Value}{base:Heap}{A:Around}{outer:List Env}{s:Shared}{H:Hp} (e:Env0 P w K mg base A outer s H) :
  Env0 P w K mg base A.in1 outer s H:=⟨e.frames,e.mod,e.bs,e.bsz,e.funs,e.frf,e.hok,e.bare⟩
section
variable {X:Cx}{pins:List (Addr×Obj)}{σ:St}{H:Hp}{s s':Shared}
theorem Inv.env0 (I:Inv X pins σ H s):Env0 X.prog X.w X.K X.mg X.base X.A X.stack s H:=
 ⟨I.ok.frames,I.ok.mod,I.bs,Nat.le_trans I.ok.bsz I.sz,I.stack,I.stkFree,I.hok,I.bare⟩
theorem Inv.after {Q:VK}{u:Value} (I:Inv X pins σ H s) (h:CE X.stack X.prog X.w H s Q u s'):EP X pins σ Q u s':=by
 obtain⟨v,H',os,bare,un,hok,r,q⟩:=h
 obtain⟨hh,g,d,t,os'⟩:=s'
 obtain rfl:os'=s.os:=os
 exact⟨v,H',I.call (h':=hh) (g':=g) (d':=d) (t':=t) (ch:=[]) un hok bare (fun b z=>absurd z (by simp)),r,q⟩
end
def tCall (sp:Sp) (dvs:List V) (E:XK) (t:TA):TE:=fun σ H Q=>t σ H fun vs H1=>sp (vs++dvs) H1 Q E
def tMeth (C:Addr) (m:Str) (sp:Sp) (dvs:List V) (E:XK) (ta:TE) (t:TA):TE:=fun σ H Q=>ta σ H fun x H1=>∃ a dx fs,x=.ref a∧H1 a=some (.ins C dx fs)∧fs.lookup m=none ∧
 t σ H1 fun vs H2=>sp (x::(vs++dvs)) H2 Q E
def tMake (C:Addr) (sp:Sp) (dvs:List V) (E:XK) (t:TA):TE:=fun σ H Q=>t σ H fun vs H1=>∀ x dx,H1 x=none→H1 dx=none→dx≠x →
 sp (.ref x::(vs++dvs)) (upd (upd H1 dx (.own x)) x (.ins C dx [])) (fun v H2=>v=.non∧Q (.ref x) H2) E
def Binds (K:PySem.W.Frag) (fd:FuncData) (ps:List Str) (ds:List Value):Prop:=
 ∀ (s:Shared) (us:List Value),K.In s.heap→(us++ds).length=ps.length→BindsTo s fd ⟨us,[]⟩ (ps.zip (us++ds))
theorem Binds.all {K:PySem.W.Frag}{fd:FuncData}{ps:List Str} (h:∀ us:List Value,us.length=ps.length→bindArgs fd ⟨us,[]⟩=pure (ps.zip us)):Binds K fd ps []:=fun s us _ hl=>by
 rw[List.append_nil] at hl ⊢
 exact .of_eq (h us hl)
def Passes (CX:CXT) (X:Cx) (E:XK):Prop:=∀ (pins:List (Addr×Obj)) (σ:St) (H:Hp) (s:Shared) (e:Value) (s':Shared),Inv X pins σ H s→CX X.stack H s E e s'→X.xe e s'
section
variable {X:Cx}{CX:CXT}{k:Nat}{f C:Addr}{fd:FuncData}{ps:List Str}{sp:Sp}{dvs:List V}{ds:List Value}{E:XK}{x m:Str}{p pos apos:Pos}{e o:Expr}{es:List Expr}{ta:TE}{t:TA}
theorem run_fn {pins:List (Addr×Obj)}{σ:St}{H:Hp}{s:Shared}{Q:VK}{us:List Value}{vs:List V} (F:FnOk X.prog X.w X.K X.mg X.base CX k f fd ps sp) (hr:Room k X.A) (hb:Binds X.K fd ps ds) (hd:Vals dvs ds) (hx:Passes CX X E)
  (I:Inv X pins σ H s) (r:Vals vs us) (h:sp (vs++dvs) H Q E):wpAny (model X.prog X.w) X.A (call (.ref f) us) (EP X pins σ Q) X.xe s:=by
 have r2:Vals (vs++dvs) (us++ds):=r.append hd
 have hl:(us++ds).length=ps.length:=by rw[← r2.length];exact F.len _ _ _ _ h
 refine wpAny_call (codeAny_mono (F.run X.A X.stack s H ⟨us,[]⟩ (us++ds) (vs++dvs) Q E hr I.env0 (hb s us I.kIn hl) r2 h) fun r s' hq=>?_)
 cases r with
 | error e=>exact hx pins σ H s e s' I hq
 | ok fl=>
  cases fl with
  | ret u=>exact I.after hq
  | next=>exact False.elim hq
  | brk=>exact False.elim hq
  | cont=>exact False.elim hq
theorem zaZ (F:FnOk X.prog X.w X.K X.mg X.base CX k f fd ps sp) (hr:Room k X.A) (hg:Gl X x) (hm:X.mg x=some (.ref f)) (hk:PySem.W.keepIn X.K (.ref f)=true) (hb:Binds X.K fd ps ds) (hd:Vals dvs ds) (hx:Passes CX X E)
  (ha:PA X (e::es) t) (hdb:(x==("__debug__":Str))=false:=by decide) (he:starEach (e::es) X.env=(false,eval e X.env)::starEach es X.env:=by rfl) (hpl:(backTo pos (starEach es X.env)).any (·.1)=false:=by rfl) :
  PE X (.Call (.Name x p) (e::es) [] pos) (tCall sp dvs E t):=by
 intro pins s σ H Q I h
 refine wpAny_Call_Name_kw (zbT I hg hm ?_ hdb)
 refine PySem.W.callWith_K (h₀:=X.base) I.ok.mod.kin hk (thn (ha pos pins s σ H _ I h) fun us s1 ⟨vs,H1,I1,r,q⟩=>⟨I1.kIn,?_⟩) he hpl
 exact run_fn F hr hb hd hx I1 r q
theorem zdC {pl:Sem Bool} (he:PE X o ta) (c:Cls X.K C) (hm:Meth X.K C m f) (F:FnOk X.prog X.w X.K X.mg X.base CX k f fd ps sp) (hr:Room k X.A) (hb:Binds X.K fd ps ds) (hd:Vals dvs ds) (hx:Passes CX X E) (ha:PA X (e::es) t)
  (hst:starEach (e::es) X.env=(false,eval e X.env)::starEach es X.env:=by rfl) (hpl:(backTo pos (starEach es X.env)).any (·.1)=false:=by rfl)
  (ht:eval (.Call (.Attribute o m apos) (e::es) [] pos) X.env=(do
   let ov ← eval o X.env
   standAt apos.atName
   let (f,first) ← holding [ov] (getMethod ov m pl)
   callWith pos f first (backTo pos (starEach (e::es) X.env)) (backToKw pos (keywordEach [] X.env))):=by rfl) :
  PE X (.Call (.Attribute o m apos) (e::es) [] pos) (tMeth C m sp dvs E ta t):=by
 intro pins s σ H Q I h
 refine PySem.W.methodCall_KW (pl:=pl) (thn (he pins s σ H _ I h) fun u s1 ⟨x,H1,I1,rx,a,dx,fs,ex,ea,l,q⟩=>?_) ht
 subst ex
 obtain rfl:u=Value.ref a:=rx
 refine zbX I1 ea c hm l ?_
 refine PySem.W.callWith_K (first:=[.ref a]) (h₀:=X.base) I.ok.mod.kin hm.kp (thn (ha pos pins s1 σ H1 _ I1 q) fun us s2 ⟨vs,H2,I2,r,q2⟩=>⟨I2.kIn,?_⟩) hst hpl
 exact run_fn (us:=.ref a::us) (vs:=.ref a::vs) F hr hb hd hx I2 (.cons rfl r) q2
theorem zfC {pl:Sem Bool} (he:PE X o ta) (c:Cls X.K C) (hm:Meth X.K C m f) (F:FnOk X.prog X.w X.K X.mg X.base CX k f fd ps sp) (hr:Room k X.A) (hb:Binds X.K fd ps ds) (hd:Vals dvs ds) (hx:Passes CX X E)
  (ht:eval (.Call (.Attribute o m apos) [] [] pos) X.env=(do
   let ov ← eval o X.env
   standAt apos.atName
   let (f,first) ← holding [ov] (getMethod ov m pl)
   callWith pos f first (backTo pos (starEach [] X.env)) (backToKw pos (keywordEach [] X.env))):=by rfl) :
  PE X (.Call (.Attribute o m apos) [] [] pos) (tMeth C m sp dvs E ta tNil):=by
 intro pins s σ H Q I h
 refine PySem.W.methodCall_KW (pl:=pl) (thn (he pins s σ H _ I h) fun u s1 ⟨x,H1,I1,rx,a,dx,fs,ex,ea,l,q⟩=>?_) ht
 subst ex
 obtain rfl:u=Value.ref a:=rx
 refine zbX I1 ea c hm l ?_
 exact PySem.W.callWith_K0 (first:=[.ref a]) I1.kIn hm.kp (run_fn (us:=[.ref a]) (vs:=[.ref a]) F hr hb hd hx I1 (.cons rfl .nil) q)
structure Mk (K:PySem.W.Frag) (C f:Addr):Prop where
 makes:PySem.W.makesIn K C=true
 init:PySem.W.findIn K (.ref C) "__init__"=some (some (.ref f))
 fn:PySem.W.isFn K (.ref f)=true
 kp:PySem.W.keepIn K (.ref C)=true
theorem run_make {pins:List (Addr×Obj)}{σ:St}{H:Hp}{s:Shared}{Q:VK}{us:List Value}{vs:List V} (M:Mk X.K C f) (F:FnOk X.prog X.w X.K X.mg X.base CX k f fd ps sp) (hr:Room (k+1) X.A) (hb:Binds X.K fd ps ds) (hd:Vals dvs ds)
  (hx:Passes CX X E) (I:Inv X pins σ H s) (r:Vals vs us)
  (h:∀ x dx,H x=none→H dx=none→dx≠x→sp (.ref x::(vs++dvs)) (upd (upd H dx (.own x)) x (.ins C dx [])) (fun v H2=>v=.non∧Q (.ref x) H2) E) :
  wpAny (model X.prog X.w) X.A (call (.ref C) us) (EP X pins σ Q) X.xe s:=by
 have hq:=h (s.heap.objs.size+1) s.heap.objs.size (I.hok.fresh (Nat.le_succ _)) (I.hok.fresh (Nat.le_refl _)) (Nat.ne_of_lt (Nat.lt_succ_self _))
 have I2:=Inv.made (C:=C) I
 have r2:Vals (V.ref (s.heap.objs.size+1)::(vs++dvs)) (Value.ref (s.heap.objs.size+1)::(us++ds)):=.cons rfl (r.append hd)
 have hl:(Value.ref (s.heap.objs.size+1)::us++ds).length=ps.length:=by
  have e:=r2.length
  rw[F.len _ _ _ _ hq] at e
  exact e.symm
 refine wpAny_call (make_map (f:=f) I.kIn M.makes M.init (beq_iff_eq.mp M.fn) (codeAny_mono (F.run _ X.stack _ _ ⟨Value.ref (s.heap.objs.size+1)::us,[]⟩ (Value.ref (s.heap.objs.size+1)::(us++ds)) _ _ E (hr.make C us [])
  (I2.env0.make C us []) (hb _ (Value.ref (s.heap.objs.size+1)::us) I2.kIn hl) r2 hq) fun r s' hq'=>?_))
 cases r with
 | error e=>exact hx pins σ _ _ e s' I2 hq'
 | ok fl=>
  cases fl with
  | ret u=>
   obtain⟨v,H',I3,rv,ev,q3⟩:=I2.after hq'
   subst ev
   exact⟨rv,⟨V.ref (s.heap.objs.size+1),H',I3,rfl,q3⟩⟩
  | next=>exact False.elim hq'
  | brk=>exact False.elim hq'
  | cont=>exact False.elim hq'
theorem pe_make (M:Mk X.K C f) (F:FnOk X.prog X.w X.K X.mg X.base CX k f fd ps sp) (hr:Room (k+1) X.A) (hg:Gl X x) (hm:X.mg x=some (.ref C)) (hb:Binds X.K fd ps ds) (hd:Vals dvs ds) (hx:Passes CX X E)
  (ha:PA X (e::es) t) (hdb:(x==("__debug__":Str))=false:=by decide) (he:starEach (e::es) X.env=(false,eval e X.env)::starEach es X.env:=by rfl) (hpl:(backTo pos (starEach es X.env)).any (·.1)=false:=by rfl) :
  PE X (.Call (.Name x p) (e::es) [] pos) (tMake C sp dvs E t):=by
 intro pins s σ H Q I h
 refine wpAny_Call_Name_kw (zbT I hg hm ?_ hdb)
 refine PySem.W.callWith_K (h₀:=X.base) I.ok.mod.kin M.kp (thn (ha pos pins s σ H _ I h) fun us s1 ⟨vs,H1,I1,r,q⟩=>⟨I1.kIn,?_⟩) he hpl
 exact run_make M F hr hb hd hx I1 r q
end
section
variable {X:Cx}{CX:CXT}{k:Nat}{f C:Addr}{fd:FuncData}{ps ks:List Str}{sp:Sp}{E:XK}{x m:Str}{p pos apos kpos:Pos}{e o:Expr}{es:List Expr}{kws:List Keyword}{te ta:TE}{t tk:TA}{nm:Option Str}
variable {g:List Value→List Value→List Value}{gV:List V→List V→List V}
end
structure FnScope (N P:List Str) (sc:Scope):Prop where
 kind:sc.kind=.function
 co:sc.isCoroutine=false
 gen:sc.isGenerator=false
 nd:N.Nodup
 pre:N.take P.length=P
 par:∀ x∈P,sc.names.lookup x=some .local∨sc.names.lookup x=some .cell
 nofree:∀ y∈sc.names,y.2≠.free
theorem zeI {kindOf:Str→Option NameKind}{x:Str}:∀ {binds:List (Str×Value)}{m:Str→Option Value},(∀ v,(x,v)∉binds)→bindL kindOf binds m x=m x
 | [],_,_=>rfl
 | (n,v)::r,m,h=>by
  unfold bindL
  rw[zeI fun w hw=>h w (List.mem_cons_of_mem _ hw)]
  split
  ·have:x≠n:=by rintro rfl;exact h v List.mem_cons_self
   simp [this]
  ·rfl
theorem zeK {kindOf:Str→Option NameKind}{x:Str}:∀ {binds:List (Str×Value)}{m:Str→Option Value},(∀ v,(x,v)∉binds)→bindC kindOf binds m x=m x
 | [],_,_=>rfl
 | (n,v)::r,m,h=>by
  unfold bindC
  rw[zeK fun w hw=>h w (List.mem_cons_of_mem _ hw)]
  split
  ·rfl
  ·have:x≠n:=by rintro rfl;exact h v List.mem_cons_self
   simp [this]
theorem zeJ {kindOf:Str→Option NameKind}{x:Str}{v:Value}:∀ {P:List Str}{vs:List Value}{i:Nat}{m:Str→Option Value},P.Nodup→P[i]?=some x→vs[i]?=some v→kindOf x=some .local →
  bindL kindOf (P.zip vs) m x=some v
 | [],_,_,_,_,h,_,_=>by simp at h
 | _::_,[],_,_,_,_,h,_=>by simp at h
 | p::P,w::vs,0,m,nd,h1,h2,hk=>by
  simp at h1 h2;subst h1;subst h2
  show bindL kindOf ((p,w)::P.zip vs) m p=_
  unfold bindL
  rw[zeI fun v hv=>(List.nodup_cons.mp nd).1 (List.of_mem_zip hv).1,if_pos hk]
  simp
 | p::P,w::vs,i+1,m,nd,h1,h2,hk=>by
  show bindL kindOf ((p,w)::P.zip vs) m x=_
  unfold bindL
  exact zeJ (i:=i) (List.nodup_cons.mp nd).2 (by simpa using h1) (by simpa using h2) hk
theorem zeL {kindOf:Str→Option NameKind}{x:Str}{v:Value}:∀ {P:List Str}{vs:List Value}{i:Nat}{m:Str→Option Value},P.Nodup→P[i]?=some x→vs[i]?=some v→kindOf x≠some .local →
  bindC kindOf (P.zip vs) m x=some v
 | [],_,_,_,_,h,_,_=>by simp at h
 | _::_,[],_,_,_,_,h,_=>by simp at h
 | p::P,w::vs,0,m,nd,h1,h2,hk=>by
  simp at h1 h2;subst h1;subst h2
  show bindC kindOf ((p,w)::P.zip vs) m p=_
  unfold bindC
  rw[zeK fun v hv=>(List.nodup_cons.mp nd).1 (List.of_mem_zip hv).1,if_neg hk]
  simp
 | p::P,w::vs,i+1,m,nd,h1,h2,hk=>by
  show bindC kindOf ((p,w)::P.zip vs) m x=_
  unfold bindC
  exact zeL (i:=i) (List.nodup_cons.mp nd).2 (by simpa using h1) (by simpa using h2) hk
def start (N:List Str) (vs:List V):St:=vs.map some++List.replicate (N.length-vs.length) none
def cxOf (CX:CXT) (P:Program) (w:World) (K:PySem.W.Frag) (mg:Str→Option Value) (base:Heap) (N:List Str) (qual:Str) (scope:Scope) (f:Addr) (cd:Value) (A:Around) (outer:List Env) (s:Shared) (H:Hp) (E:XK):Cx where
 prog:=P
 w:=w
 K:=K
 mg:=mg
 base:=base
 A:=A.deeper (envOfC qual scope s.heap.objs.size f cd)
 N:=N
 s₀:=s
 H₀:=H
 env:=envOfC qual scope s.heap.objs.size f cd
 outer:=outer
 stack:=envOfC qual scope s.heap.objs.size f cd::outer
 ex:=[]
 calm:=true
 fn:=fun _=>true
 pn:=[]
 xe:=fun e s'=>wpAny (model P w) (A.deeper (envOfC qual scope s.heap.objs.size f cd)) (leaving (envOfC qual scope s.heap.objs.size f cd) e) (fun _ s''=>CX outer H s E e s'') (fun e' s''=>CX outer H s E e' s'') s'
theorem cell_has {sc:Scope}{n:Nat}{x:Str} (h:sc.names.lookup x=some .cell):∃ c,(cellsFrom n sc.names []).lookup x=some c:=by
 have q:=PySem.W.cellsFrom_some sc.names n [] (.inl h)
 exact Option.isSome_iff_exists.mp q
theorem inv_start {CX:CXT}{P:Program}{w:World}{K:PySem.W.Frag}{mg:Str→Option Value}{base:Heap}{N ps:List Str}{qual:Str}{scope:Scope}{f:Addr}{cd:Value}{A:Around}{outer:List Env}{s s1:Shared}{H:Hp}{E:XK}{us:List Value}{vs:List V}
  (S:FnScope N ps scope) (hd:A.handled=none) (e0:Env0 P w K mg base A outer s H) (hl:vs.length=ps.length) (r:Vals vs us)
  (x:InCallC s s.heap.objs.size (bindL (envOfC qual scope s.heap.objs.size f cd).kindOf (ps.zip us) fun _=>none) (cellsFrom (s.heap.objs.size+1) scope.names []) (bindC (envOfC qual scope s.heap.objs.size f cd).kindOf (ps.zip us) fun _=>none) s1) :
  Inv (cxOf CX P w K mg base N qual scope f cd A outer s H E) [] (start N vs) H s1:=by
 have hpl:ps.length≤N.length:=by have:=congrArg List.length S.pre;rw[List.length_take] at this;omega
 obtain⟨h1,tk,rfl,hk⟩:=x.done
 have noA:∀ b:Addr,b∉(cxOf CX P w K mg base N qual scope f cd A outer s H E).ex:=fun b z=>absurd (show b∈([]:List Addr) from z) (by simp)
 refine⟨⟨e0.mod,S.kind,rfl,rfl,Nat.le_refl _,fun y z c h1 h2=>?_,fun y hy=>?_,fun y c _ h=>?_,fun _=>hd,Around.frames_deeper e0.frames,.inr ⟨rfl,rfl⟩,fun b z=>absurd z (noA b),e0.bs,e0.bsz,fun b _ _=>noA b,fun b z=>absurd z (noA b),e0.funs,e0.frf⟩,
  rfl,e0.bare,Un.kept hk,⟨_,x.toInCall.ns,fun i y v h1 h2 h3=>?_⟩,fun y c h=>⟨_,x.cell y c h⟩,e0.hok.fresh (Nat.le_refl _),fun y c h=>?_,fun p hp=>absurd (show p∈([]:List (Addr×Obj)) from hp) (by simp),e0.hok.kept hk,?_⟩
 ·exact name_of_addr x.apart (PySem.mem_of_lookup h1) (PySem.mem_of_lookup h2)
 ·have hy:scope.names.lookup y=some .cell∨scope.names.lookup y=some .free:=hy
  rcases hy with hy | hy
  ·exact cell_has hy
  ·exact absurd rfl (S.nofree _ (PySem.mem_of_lookup hy))
 ·exact Nat.le_of_lt (x.above y c (PySem.mem_of_lookup h))
 ·have hi:i<vs.length:=by
   unfold start at h2
   by_cases hi:i<vs.length
   ·exact hi
   ·rw[List.getElem?_append_right (by simpa using hi)] at h2
    rw[List.getElem?_replicate] at h2
    split at h2<;>cases h2
  have ha:vs[i]?=some v:=by
   unfold start at h2
   rw[List.getElem?_append_left (by simpa using hi),List.getElem?_map] at h2
   cases e:vs[i]? with
   | none=>rw[e] at h2;cases h2
   | some a=>rw[e] at h2;cases h2;rfl
  obtain⟨u,hu,rv⟩:=r.get ha
  have hp:ps[i]?=some y:=by
   rw[← S.pre,List.getElem?_take_of_lt (by omega)];exact h1
  have ndP:ps.Nodup:=by rw[← S.pre];exact S.nd.sublist (List.take_sublist _ _)
  refine⟨u,rv,?_⟩
  rcases S.par y (List.mem_of_getElem? hp) with k | k
  ·exact .inl ⟨k,zeJ ndP hp hu k⟩
  ·obtain⟨c,e⟩:=cell_has (n:=s.heap.objs.size+1) k
   refine .inr ⟨.inl k,c,e,?_⟩
   have q:=x.cell y c e
   rw[zeL ndP hp hu (by show scope.names.lookup y≠_;rw[k];decide)] at q
   exact q
 ·exact e0.hok.fresh (Nat.le_of_lt (x.above y c (PySem.mem_of_lookup h)))
 ·unfold start
  show _=N.length
  rw[List.length_append,List.length_map,List.length_replicate]
  omega
theorem fn_of {CX:CXT}{P:Program}{w:World}{K:PySem.W.Frag}{mg:Str→Option Value}{base:Heap}{k:Nat}{f:Addr}{name qual:Str}{params:Arguments}{body:List Stmt}{scope:Scope}{dV kV doc pm cdv ct oc:Value}{an od:Option Addr}
  {osl:Array (Option Value)}{N ps:List Str}{sp:Sp} (lk:K.lookup f=some ⟨oc,od,.func (PySem.W.fnOf name qual params body scope dV kV doc pm an cdv ct),osl⟩) (hcd:PySem.W.codeIn K cdv qual=true) (S:FnScope N ps scope)
  (len:∀ vs H Q E,sp vs H Q E→vs.length=ps.length)
  (hbody:∀ (A:Around) (outer:List Env) (s:Shared) (H:Hp) (vs:List V) (Q:VK) (E:XK),Room k (A.deeper (envOfC qual scope s.heap.objs.size f cdv))→sp vs H Q E →
   ∃ t,PSs (cxOf CX P w K mg base N qual scope f cdv A outer s H E) body t∧t { nx:=fun _ H'=>Q .non H',rt:=Q } (start N vs) H) :
  FnOk P w K mg base CX (k+1) f (PySem.W.fnOf name qual params body scope dV kV doc pm an cdv ct) ps sp:=by
 refine⟨len,fun A outer s H args us vs Q E hr e0 hb r hsp=>?_⟩
 have hl:=len _ _ _ _ hsp
 have KX:K.In s.heap:=e0.mod.kin.keeps fun b o e=>(e0.bs b o e).1
 have lim:s.heap.NoLimit:=e0.mod.nolimit.keeps fun b o e=>(e0.bs b o e).1
 have hkind:∀ y∈ps.zip us,scope.names.lookup y.1=some .local∨(scope.names.lookup y.1=some .cell∧((cellsFrom (s.heap.objs.size+1) scope.names []).lookup y.1).isSome=true):=fun⟨n,v⟩ hy=>by
  rcases S.par n (List.of_mem_zip hy).1 with q | q
  ·exact .inl q
  ·exact .inr ⟨q,PySem.W.cellsFrom_some _ _ _ (.inl q)⟩
 refine codeAny_call_function hr.depth (KX _ _ lk) rfl S.co S.gen rfl (PySem.W.codeRec_of KX hcd) (hb _ _ _ _ ?_)
 refine wpAny_newFunctionEnv_cells S.kind hkind fun env he s1 x=>?_
 subst he
 refine⟨lim.keeps x.toInCall.keep,codeAny_func ?_⟩
 obtain⟨t,ht,hq⟩:=hbody A outer s H vs Q E (hr.deeper _) hsp
 have I:Inv (cxOf CX P w K mg base N qual scope f cdv A outer s H E) [] (start N vs) H s1:=inv_start S hr.hd e0 hl r x
 refine wpAny_mono (ht [] s1 (start N vs) H _ I hq) (fun fl s' hs=>?_) fun e s' hs=>hs
 have fin:∀ {σ':St}{H':Hp}{v:V}{u:Value},Inv (cxOf CX P w K mg base N qual scope f cdv A outer s H E) [] σ' H' s'→RelV v u→Q v H'→CE outer P w H s Q u s':=
  fun {σ' H' v u} J rv q=>⟨v,H',J.os,J.bare,J.base,J.hok,rv,q⟩
 cases fl with
 | ret u=>
  obtain⟨v,σ',H',J,rv,q⟩:=hs
  exact fin J rv q
 | next=>
  obtain⟨σ',H',J,q⟩:=hs
  exact fin (v:=V.non) (u:=Value.none) J rfl q
 | brk=>
  obtain⟨_,_,_,q⟩:=hs
  exact False.elim q
 | cont=>
  obtain⟨_,_,_,q⟩:=hs
  exact False.elim q
end L2
namespace L2
open PySem PySem.Spec PyProof.Rows
section
variable {X:Cx}{x:Str}{p pos:Pos}{e:Expr}{es:List Expr}{t:TA}{id T:String}{r:List V→Hp→VK→Prop}
def tCB (r:List V→Hp→VK→Prop) (t:TA):TE:=fun σ H Q=>t σ H fun vs H1=>r vs H1 Q
theorem zaw (hc:CallR X (.builtin id) r) (hg:Gl X x) (hm:X.mg x=none) (hv:bootBuiltins x=some (.builtin id)) (ha:PA X (e::es) t) (hn:x≠"__name__":=by decide) (hdb:(x==("__debug__":Str))=false:=by decide)
  (he:starEach (e::es) X.env=(false,eval e X.env)::starEach es X.env:=by rfl) (hpl:(backTo pos (starEach es X.env)).any (·.1)=false:=by rfl):PE X (.Call (.Name x p) (e::es) [] pos) (tCB r t):=by
 intro pins s σ H Q I h
 refine wpAny_Call_Name_kw (zes I hg hm hv ?_ hn hdb)
 exact PyProof.Rows.callWith_builtin1 (thn (ha pos pins s σ H _ I h) fun us s1 ⟨vs,H1,I1,r1,q1⟩=>hc pins s1 σ H1 vs us Q I1 r1 q1) he hpl
theorem zem (hc:CallR X (.type T) r) (hg:Gl X x) (hm:X.mg x=none) (hv:bootBuiltins x=some (.type T)) (ha:PA X (e::es) t) (hn:x≠"__name__":=by decide) (hdb:(x==("__debug__":Str))=false:=by decide)
  (he:starEach (e::es) X.env=(false,eval e X.env)::starEach es X.env:=by rfl) (hpl:(backTo pos (starEach es X.env)).any (·.1)=false:=by rfl):PE X (.Call (.Name x p) (e::es) [] pos) (tCB r t):=by
 intro pins s σ H Q I h
 refine wpAny_Call_Name_kw (zes I hg hm hv ?_ hn hdb)
 exact PyProof.Rows.callWith_type1 (thn (ha pos pins s σ H _ I h) fun us s1 ⟨vs,H1,I1,r1,q1⟩=>hc pins s1 σ H1 vs us Q I1 r1 q1) he hpl
end
end L2
namespace L2
open PySem PySem.Spec PyProof.Rows
section
variable {κ:Type} [DecidableEq κ]
def valV (kvs:List (κ×V)) (k:κ):Option V:=(kvs.find? fun kv=>decide (kv.1=k)).map (·.2)
def putK (kvs:List (κ×V)) (k:κ) (v:V):List (κ×V):=
 if (kvs.any fun kv=>decide (kv.1=k))=true then kvs.map (fun kv=>if kv.1=k then (kv.1,v) else kv) else kvs++[(k,v)]
theorem zbI {p:κ×V}{r:List (κ×V)}{k:κ} (e:p.1=k):valV (p::r) k=some p.2:=by simp [valV,List.find?_cons,e]
theorem zbJ {p:κ×V}{r:List (κ×V)}{k:κ} (e:¬ p.1=k):valV (p::r) k=valV r k:=by simp [valV,List.find?_cons,e]
theorem zbK (k:κ):∀ kvs:List (κ×V),(kvs.any fun kv=>decide (kv.1=k))=(valV kvs k).isSome
 | []=>rfl
 | p::r=>by
  rw[List.any_cons]
  by_cases e:p.1=k
  ·simp only[zbI e,decide_eq_true e,Bool.true_or,Option.isSome_some]
  ·rw[zbJ e,decide_eq_false e,Bool.false_or];exact zbK k r
theorem zbB (kvs:List (κ×V)) (k:κ) (v:V):(putK kvs k v).length≤kvs.length+1:=by
 unfold putK
 split
 ·rw[List.length_map];omega
 ·rw[List.length_append,List.length_cons,List.length_nil];omega
theorem putK_new {kvs:List (κ×V)}{k:κ} (v:V) (h:valV kvs k=none):putK kvs k v=kvs++[(k,v)]:=by
 unfold putK
 rw[zbK,h]
 exact if_neg (by decide)
theorem RelO.isSome_eq {o:Option V}{u:Option Value} (r:RelO o u):o.isSome=u.isSome:=by
 cases o with
 | none=>cases u with
  | none=>rfl
  | some _=>exact(show False from r).elim
 | some _=>cases u with
  | none=>exact(show False from r).elim
  | some _=>rfl
theorem KV.val {kvs:List (κ×V)}{vs:List (κ×Value)} (r:KV kvs vs) (k:κ):RelO (valV kvs k) (valueAt vs k):=by
 unfold KV at r
 induction r with
 | nil=>exact True.intro
 | @cons p q ps qs h t ih=>
  obtain⟨h1,h2⟩:=h
  by_cases e:p.1=k
  ·have e':q.1=k:=h1.symm.trans e
   have b:valueAt (q::qs) k=some q.2:=by simp [valueAt,List.find?_cons,e']
   rw[zbI e,b];exact h2
  ·have e':¬ q.1=k:=fun z=>e (h1.trans z)
   have b:valueAt (q::qs) k=valueAt qs k:=by simp [valueAt,List.find?_cons,e']
   rw[zbJ e,b];exact ih
theorem KV.any {kvs:List (κ×V)}{vs:List (κ×Value)} (r:KV kvs vs) (k:κ):(kvs.any fun kv=>decide (kv.1=k))=vs.any fun kv=>decide (kv.1=k):=by
 unfold KV at r
 induction r with
 | nil=>rfl
 | cons h t ih=>rw[List.any_cons,List.any_cons,ih,h.1]
theorem KV.repl {kvs:List (κ×V)}{vs:List (κ×Value)} (r:KV kvs vs) (k:κ){y:V}{u:Value} (ry:RelV y u) :
  KV (kvs.map fun kv=>if kv.1=k then (kv.1,y) else kv) (vs.map fun kv=>if kv.1=k then (kv.1,u) else kv):=by
 unfold KV at r ⊢
 induction r with
 | nil=>exact .nil
 | @cons p q ps qs h t ih=>
  rw[List.map_cons,List.map_cons]
  refine .cons ?_ ih
  obtain⟨h1,h2⟩:=h
  by_cases e:p.1=k
  ·rw[if_pos e,if_pos (h1.symm.trans e)];exact⟨h1,ry⟩
  ·rw[if_neg e,if_neg (fun z=>e (h1.trans z))];exact⟨h1,h2⟩
theorem KV.put {kvs:List (κ×V)}{vs:List (κ×Value)} (r:KV kvs vs) (k:κ){y:V}{u:Value} (ry:RelV y u):KV (putK kvs k y) (stored vs k u):=by
 unfold putK stored
 rw[r.any k]
 by_cases e:(vs.any fun kv=>decide (kv.1=k))=true
 ·rw[if_pos e,if_pos e];exact r.repl k ry
 ·rw[if_neg e,if_neg e];exact Paired.snoc r ⟨rfl,ry⟩
theorem KV.length {kvs:List (κ×V)}{vs:List (κ×Value)} (r:KV kvs vs):kvs.length=vs.length:=Paired.length r
end
theorem kV_is {P:Program}{w:World}{k:Key}{u:Value} (r:RelV (kV k) u):(mixKind P w).is k u=true:=by
 cases k with
 | inl i=>obtain⟨t,e⟩:=(show ∃ t,u=Value.int i t from r);subst e;exact zeX P w i t
 | inr x=>obtain⟨t,e⟩:=(show ∃ t,u=Value.str x t from r);subst e;exact zeW P w x t
theorem zey {P:Program}{w:World}:∀ {ks:List Key}{us:List Value},Vals (ks.map kV) us→ItemsAre (mixKind P w) ks us
 | [],_,r=>by rw[List.map_nil] at r;cases r;exact .nil
 | k::ks,_,r=>by
  rw[List.map_cons] at r
  cases r with
  | cons h t=>exact .cons (kV_is h) (zey t)
abbrev KT (H:Hp):List (List Key×V)→List (List Key×Addr×Value)→Prop:=Paired fun p q=>p.1=q.1∧H q.2.1=some (.tup (p.1.map kV))∧RelV p.2 q.2.2
theorem KT.val {H:Hp}{kvs:List (List Key×V)}{xs:List (List Key×Addr×Value)} (r:KT H kvs xs) (k:List Key):RelO (valV kvs k) ((atKey xs k).map (·.2)):=by
 induction r with
 | nil=>exact True.intro
 | @cons p q ps qs h t ih=>
  obtain⟨h1,_,h2⟩:=h
  by_cases e:p.1=k
  ·have e':q.1=k:=h1.symm.trans e
   have b:atKey (q::qs) k=some q.2:=by simp [atKey,List.find?_cons,e']
   rw[zbI e,b];exact h2
  ·have e':¬ q.1=k:=fun z=>e (h1.trans z)
   have b:atKey (q::qs) k=atKey qs k:=by simp [atKey,List.find?_cons,e']
   rw[zbJ e,b];exact ih
theorem KT.repl {H:Hp}{kvs:List (List Key×V)}{xs:List (List Key×Addr×Value)} (r:KT H kvs xs) (k:List Key){y:V}{u:Value} (ry:RelV y u) :
  KT H (kvs.map fun kv=>if kv.1=k then (kv.1,y) else kv) (xs.map (putAt k u)):=by
 induction r with
 | nil=>exact .nil
 | @cons p q ps qs h t ih=>
  rw[List.map_cons,List.map_cons]
  refine .cons ?_ ih
  obtain⟨h1,h2,h3⟩:=h
  unfold putAt
  by_cases e:p.1=k
  ·rw[if_pos e,if_pos (h1.symm.trans e)];exact⟨h1,h2,ry⟩
  ·rw[if_neg e,if_neg (fun z=>e (h1.trans z))];exact⟨h1,h2,h3⟩
theorem KT.put {H:Hp}{kvs:List (List Key×V)}{xs:List (List Key×Addr×Value)} (r:KT H kvs xs) (k:List Key){b:Addr}{y:V}{u:Value} (hb:H b=some (.tup (k.map kV))) (ry:RelV y u) :
  KT H (putK kvs k y) (storedH xs k b u):=by
 have e:(kvs.any fun kv=>decide (kv.1=k))=(atKey xs k).isSome:=by
  rw[zbK,(r.val k).isSome_eq,Option.isSome_map]
 unfold putK storedH
 rw[e]
 by_cases q:(atKey xs k).isSome=true
 ·rw[if_pos q,if_pos q];exact r.repl k ry
 ·rw[if_neg q,if_neg q];exact Paired.snoc r ⟨rfl,hb,ry⟩
theorem KT.keeps {H H':Hp}{kvs:List (List Key×V)}{xs:List (List Key×Addr×Value)} (r:KT H kvs xs) (ht:∀ b ys,H b=some (.tup ys)→H' b=some (.tup ys)):KT H' kvs xs:=
 Paired.mapP r fun _ _ z=>⟨z.1,ht _ _ z.2.1,z.2.2⟩
section
variable {P:Program}{w:World}{H:Hp}{h:Heap}{a:Addr}
theorem rd_of {u:HO} (ok:HOk P w H h) (e:Rd H a u):ObjOk P w H h a u:=e.ok ok
theorem dk_rd {kvs:List (Key×V)} (ok:HOk P w H h) (e:Rd H a (.dK kvs)):kvs.length≤sizeLine∧(a==sysModules)=false∧∃ vs,KV kvs vs∧h.DictOf (mixKind P w) a vs:=
 show ObjOk P w H h a (.dK kvs) from rd_of ok e
theorem dk_of {kvs:List (Key×V)} (ok:HOk P w H h) (e:H a=some (.dK kvs)):kvs.length≤sizeLine∧(a==sysModules)=false∧∃ vs,KV kvs vs∧h.DictOf (mixKind P w) a vs:=dk_rd ok (.inl e)
theorem zet {ks:List Key} (ok:HOk P w H h) (e:H a=some (.tup (ks.map kV))):(tupleKind (mixKind P w)).is h ks a:=by
 obtain⟨_,its,r,o,h1,h2,n,h3⟩:=(show ObjOk P w H h a (.tup (ks.map kV)) from ok a _ e)
 exact⟨o,its.toArray,n,h1,h2,h3,by simpa using zey r⟩
theorem dt_rd {kvs:List (List Key×V)} (ok:HOk P w H h) (e:Rd H a (.dT kvs)):kvs.length≤sizeLine∧(a==sysModules)=false ∧
  ∃ xs,KT H kvs xs∧h.DictOfH (tupleKind (mixKind P w)) a xs:=by
 obtain⟨z,y,xs,r,o,es,ep,h1,h2,h3,h4,h5⟩:=(show ObjOk P w H h a (.dT kvs) from rd_of ok e)
 refine⟨z,y,xs,r,o,es,ep,h1,h2,h3,h4,fun x hx=>?_,h5⟩
 have all:∀ {l:List (List Key×V)}{m:List (List Key×Addr×Value)},KT H l m→∀ x∈m,(tupleKind (mixKind P w)).is h x.1 x.2.1:=by
  intro l m q
  induction q with
  | nil=>intro x hx;exact nomatch hx
  | @cons p q ps qs hq t ih=>
   intro x hx
   rcases List.mem_cons.mp hx with e | hx
   ·subst e
    exact zet ok (by rw[← hq.1];exact hq.2.1)
   ·exact ih x hx
 exact all r x hx
theorem dt_of {kvs:List (List Key×V)} (ok:HOk P w H h) (e:H a=some (.dT kvs)):kvs.length≤sizeLine∧(a==sysModules)=false ∧
  ∃ xs,KT H kvs xs∧h.DictOfH (tupleKind (mixKind P w)) a xs:=dt_rd ok (.inl e)
end
def DGet (H:Hp) (a:Addr) (y:V) (r:Option V):Prop:=
 (∃ kvs k,Rd H a (.dK kvs)∧y=kV k∧r=valV kvs k)∨∃ kvs k b,Rd H a (.dT kvs)∧y=.ref b∧H b=some (.tup (k.map kV))∧r=valV kvs k
def DPut (H:Hp) (a:Addr) (y v:V) (H':Hp):Prop:=
 (∃ kvs k,H a=some (.dK kvs)∧y=kV k∧kvs.length<sizeLine∧H'=upd H a (.dK (putK kvs k v))) ∨
 ∃ kvs k b,H a=some (.dT kvs)∧y=.ref b∧H b=some (.tup (k.map kV))∧kvs.length<sizeLine∧H'=upd H a (.dT (putK kvs k v))
theorem DGet.k {H:Hp}{a:Addr}{kvs:List (Key×V)}{k:Key} (e:H a=some (.dK kvs)):DGet H a (kV k) (valV kvs k):=.inl ⟨kvs,k,.inl e,rfl,rfl⟩
theorem DPut.k {H:Hp}{a:Addr}{kvs:List (Key×V)}{k:Key}{v:V} (e:H a=some (.dK kvs)) (hl:kvs.length<sizeLine):DPut H a (kV k) v (upd H a (.dK (putK kvs k v))):=.inl ⟨kvs,k,e,rfl,hl,rfl⟩
section
variable {X:Cx}{pins:List (Addr×Obj)}{σ:St}{H:Hp}{s:Shared}{a:Addr}{y v:V}{u r:Value}{o:Option V}{A:Around}{E:Value→Shared→Prop}
theorem Inv.big (I:Inv X pins σ H s):sysModules<s.heap.objs.size:=by
 have h:mainGlobals<s.heap.objs.size:=(I.mod.glob.keeps I.bk).lt
 exact Nat.lt_trans (by decide) h
theorem zeD {Q:Value→Shared→Prop} (hu:A.units+1<cLine) (I:Inv X pins σ H s) (g:DGet H a y (some v)) (ry:RelV y u) (h:∀ w' s',Inv X pins σ H s'→RelV v w'→Q w' s') :
  wpAny (model X.prog X.w) A (getItem (.ref a) u) Q E s:=by
 rcases g with ⟨kvs,k,e,ey,l⟩ | ⟨kvs,k,b,e,ey,eb,l⟩
 ·subst ey
  obtain⟨z,hd,vs,rel,dd⟩:=dk_rd I.hok e
  obtain⟨w',hw,rw'⟩:=RelO.some_of (v:=v) (o:=valueAt vs k) (by rw[l];exact rel.val k)
  exact wpAny_getItem_of (kV_is ry) dd.mapOf hw (h w' _ (I.tok _) rw')
 ·subst ey
  cases (show u=Value.ref b from ry)
  obtain⟨z,hd,xs,rel,dd⟩:=dt_rd I.hok e
  obtain⟨w',hw,rw'⟩:=RelO.some_of (v:=v) (o:=(atKey xs k).map (·.2)) (by rw[l];exact rel.val k)
  obtain⟨p,hp,hp2⟩:=Option.map_eq_some_iff.mp hw
  refine wpAny_getItem_heap (tupleKind_room_in1 hu) (zet I.hok eb) dd hp ?_
  rw[hp2]
  exact h w' _ (I.tok _) rw'
theorem d_in {Q:Value→Shared→Prop} (hu:A.units+1<cLine) (I:Inv X pins σ H s) (g:DGet H a y o) (ry:RelV y u) (h:∀ s',Inv X pins σ H s'→Q (.bool o.isSome) s') :
  wpAny (model X.prog X.w) A (compareOp .In u (.ref a)) Q E s:=by
 rcases g with ⟨kvs,k,e,ey,l⟩ | ⟨kvs,k,b,e,ey,eb,l⟩
 ·subst ey
  obtain⟨z,hd,vs,rel,dd⟩:=dk_rd I.hok e
  refine wpAny_in_of (kV_is ry) hd dd.mapOf ?_
  rw[← (rel.val k).isSome_eq,← l]
  exact h _ (I.tok _)
 ·subst ey
  cases (show u=Value.ref b from ry)
  obtain⟨z,hd,xs,rel,dd⟩:=dt_rd I.hok e
  refine wpAny_in_heap (tupleKind_room_in1 hu) (zet I.hok eb) hd dd ?_
  have q:=(rel.val k).isSome_eq
  rw[Option.isSome_map] at q
  rw[← q,← l]
  exact h _ (I.tok _)
theorem d_notIn {Q:Value→Shared→Prop} (hu:A.units+1<cLine) (I:Inv X pins σ H s) (g:DGet H a y o) (ry:RelV y u) (h:∀ s',Inv X pins σ H s'→Q (.bool (!o.isSome)) s') :
  wpAny (model X.prog X.w) A (compareOp .NotIn u (.ref a)) Q E s:=by
 rcases g with ⟨kvs,k,e,ey,l⟩ | ⟨kvs,k,b,e,ey,eb,l⟩
 ·subst ey
  obtain⟨z,hd,vs,rel,dd⟩:=dk_rd I.hok e
  refine wpAny_notIn_of (kV_is ry) hd dd.mapOf ?_
  rw[← (rel.val k).isSome_eq,← l]
  exact h _ (I.tok _)
 ·subst ey
  cases (show u=Value.ref b from ry)
  obtain⟨z,hd,xs,rel,dd⟩:=dt_rd I.hok e
  refine wpAny_notIn_heap (tupleKind_room_in1 hu) (zet I.hok eb) hd dd ?_
  have q:=(rel.val k).isSome_eq
  rw[Option.isSome_map] at q
  rw[← q,← l]
  exact h _ (I.tok _)
theorem zfl {h':Heap}{t':Nat}{ob:HO} (I:Inv X pins σ H s) (mu:Mut (H a)) (hs:Heap.SameBut a s.heap h') (he:∃ q,h'.get? a=some q) (new:ObjOk X.prog X.w (upd H a ob) h' a ob) :
  Inv X pins σ (upd H a ob) { s with heap:=h',toks:=t' }:=
 I.write (x:=a) (e:=a) mu (.inl rfl) (fun b q hb z=>(hs.2 b hb).trans z) he new
theorem dk_new {P:Program}{w:World}{H':Hp}{h':Heap}{kvs:List (Key×V)}{vs:List (Key×Value)} (z:kvs.length≤sizeLine) (hd:(a==sysModules)=false) (rel:KV kvs vs) (dd:h'.DictOf (mixKind P w) a vs) :
  ObjOk P w H' h' a (.dK kvs):=⟨z,hd,vs,rel,dd⟩
theorem d_setItem {H':Hp}{Q:Unit→Shared→Prop} (hu:A.units+1<cLine) (I:Inv X pins σ H s) (g:DPut H a y v H') (ry:RelV y u) (rv:RelV v r) (h:∀ s',Inv X pins σ H' s'→Q () s') :
  wpAny (model X.prog X.w) A (setItem (.ref a) u r) Q E s:=by
 rcases g with ⟨kvs,k,e,ey,l,eH⟩ | ⟨kvs,k,b,e,ey,eb,l,eH⟩
 ·subst ey eH
  obtain⟨z,hd,vs,rel,dd⟩:=dk_of I.hok e
  have hz:vs.length≤sizeLine:=by rw[← rel.length];exact z
  have hl:(putK kvs k v).length≤sizeLine:=by have:=zbB kvs k v;omega
  refine wpAny_setItem_pairs (hsz:=hz) (kV_is ry) dd fun h' dd' hs=>h _ ?_
  have he:∃ q,h'.get? a=some q:=let ⟨q,_,_,hq,_⟩:=dd';⟨q,hq⟩
  exact zfl I (by rw[e];exact True.intro) hs he (dk_new hl hd (rel.put k rv) dd')
 ·subst ey eH
  cases (show u=Value.ref b from ry)
  obtain⟨z,hd,xs,rel,dd⟩:=dt_of I.hok e
  have hz:xs.length≤sizeLine:=by rw[← Paired.length rel];exact z
  have hl:(putK kvs k v).length≤sizeLine:=by have:=zbB kvs k v;omega
  refine wpAny_setItem_heap (hsz:=hz) (tupleKind_room_in1 hu) (zet I.hok eb) dd fun h' dd' hs=>h _ ?_
  obtain⟨q,es,ep,hq,h2,h3,h4,_,h5⟩:=dd'
  refine zfl I (by rw[e];exact True.intro) hs ⟨q,hq⟩ ⟨hl,hd,_,(rel.put k eb rv).keeps fun c ys ec=>?_,q,es,ep,hq,h2,h3,h4,h5⟩
  rw[zac (ne_of ec e (fun z=>nomatch z))]
  exact ec
end
section
variable {X:Cx}{pins:List (Addr×Obj)}{σ:St}{H:Hp}{s:Shared}{a:Addr}{kvs:List (Key×V)}{k:Key}{u:Value}{A:Around}{E:Value→Shared→Prop}
end
def NoSl (i:Expr):Prop:=∀ ov iv,subscripted i false ov iv=operate [ov,iv] (getItem ov iv)
theorem subD_of {prog:Program}{w:World}{A:Around}{E:Value→Shared→Prop}{s:Shared}{env:Env}{value slice:Expr}{pos:Pos}{T id:String}{Q:Value→Shared→Prop}
  (hl:typeLookup (.type T) "__getitem__"=pure (some (.builtin id))) (hs:NoSl slice)
  (h:wpAny (model prog w) A (eval value env) (fun o s₁=>wpAny (model prog w) A (eval slice env) (fun i s₂=>s₂.TypeIs o T∧wpAny (model prog w) A (getItem o i) Q E s₂) E s₁) E s) :
  wpAny (model prog w) A (eval (.Subscript value slice pos) env) Q E s:=by
 refine Subscript_ (wpAny_mono h (fun o s₁ h₁=>wpAny_mono h₁ (fun i s₂ h₂=>?_) fun _ _ x=>x) fun _ _ x=>x)
 obtain⟨hT,h₂⟩:=h₂
 unfold subscriptTail
 refine wpAny_bind ?_
 rw[getitemInPython_of_ne hT.not_modules]
 refine wpAny_bind (wpAny_specialOf hT hl ?_)
 have fin:wpAny (model prog w) A (subscripted slice false o i) (fun r s₃=>wpAny (model prog w) A (letTemporaryGo value o r >>= fun _=>pure r) Q E s₃) E s₂:=by
  rw[hs o i]
  exact wpAny_operating (wpAny_mono h₂ (fun r s₃ h₃=>wpAny_bind (wpAny_letTemporaryGo (wpAny_pure h₃))) fun _ _ x=>x)
 first
  | exact wpAny_pure (wpAny_bind fin)
  | exact wpAny_bind (wpAny_pure (wpAny_bind fin))
  | exact wpAny_bind fin
theorem zcM {X:Cx}{pins:List (Addr×Obj)}{σ:St}{H:Hp}{s:Shared}{a:Addr}{y:V}{o:Option V} (I:Inv X pins σ H s) (g:DGet H a y o):s.TypeIs (.ref a) "dict":=by
 rcases g with ⟨kvs,k,e,_,_⟩ | ⟨kvs,k,b,e,_,_,_⟩
 ·obtain⟨_,_,vs,_,dd⟩:=dk_rd I.hok e
  exact dd.typeIs
 ·obtain⟨_,_,xs,_,dd⟩:=dt_rd I.hok e
  exact dd.typeIs
def tDGet (td ty:TE):TE:=fun σ H Q=>td σ H fun x H1=>ty σ H1 fun y H2=>∃ a v,x=.ref a∧DGet H2 a y (some v)∧Q v H2
def sDPut (td ty tv:TE):TS:=fun D σ H=>tv σ H fun v H1=>td σ H1 fun x H2=>ty σ H2 fun y H3=>∃ a H4,x=.ref a∧DPut H3 a y v H4∧D.nx σ H4
section
variable {X:Cx}{o i e value:Expr}{pos pos' tpos:Pos}{td ty tv:TE}
theorem zaN (hu:X.A.units+1<cLine) (ho:PE X o td) (hi:PE X i ty) (hs:NoSl i):PE X (.Subscript o i pos) (tDGet td ty):=by
 intro pins s σ H Q I h
 refine subD_of PySem.F.slot_dict_getitem.lookup hs (thn (ho pins s σ H _ I h) fun u s1 ⟨x,H1,I1,rx,q1⟩=>thn (hi pins s1 σ H1 _ I1 q1) fun iv s2 ⟨y,H2,I2,ry,a,v,ex,g,q2⟩=>?_)
 subst ex
 obtain rfl:u=Value.ref a:=rx
 exact⟨zcM I2 g,zeD hu I2 g ry fun w' s3 I3 rw'=>⟨v,H2,I3,rw',q2⟩⟩
theorem zdw (hu:X.A.units+1<cLine) (ho:PE X o td) (hi:PE X i ty) (hv:PE X value tv) (hs:swapsWith value (some (.Subscript o i pos')) pos.line X.env=pure false) :
  PS X (.Assign [.Subscript o i pos'] value pos) (sDPut td ty tv):=by
 intro pins s σ H D I h
 refine wpAny_Assign_Subscript (thn (hv pins s σ H _ I h) fun r s1 ⟨v,H1,I1,rv,q1⟩=>thn (ho pins s1 σ H1 _ I1 q1) fun u s2 ⟨x,H2,I2,rx,q2⟩=>thn (hi pins s2 σ H2 _ I2 q2) fun iv s3 ⟨y,H3,I3,ry,a,H4,ex,g,q3⟩=>?_) hs
 subst ex
 obtain rfl:u=Value.ref a:=rx
 exact d_setItem hu I3 g ry rv fun s4 I4=>⟨σ,H4,I4,q3⟩
end
theorem dk_empty {P:Program}{w:World}{H:Hp} (h:Heap) (hb:sysModules<h.objs.size):ObjOk P w H (h.push { cls:=.type "dict",data:=.dict #[] }) h.objs.size (.dK []):=
 ⟨Nat.zero_le _,beq_eq_false_iff_ne.mpr (Ne.symm (Nat.ne_of_lt hb)),[],.nil,Heap.DictOf.new h⟩
section
variable {X:Cx}{pos:Pos}
end
def tPairs:List (TE×TE)→St→Hp→(List (V×V)→Hp→Prop)→Prop
 | [],_,H,Q=>Q [] H
 | (tk,tv)::r,σ,H,Q=>tk σ H fun x H1=>tv σ H1 fun y H2=>tPairs r σ H2 fun ps H3=>Q ((x,y)::ps) H3
abbrev VV:List (V×V)→List (Value×Value)→Prop:=Paired fun p q=>RelV p.1 q.1∧RelV p.2 q.2
def PPs (X:Cx) (pos:Pos) (keys:List (Option Expr)) (values:List Expr) (trs:List (TE×TE)):Prop:=
 ∀ (pins:List (Addr×Obj)) (s:Shared) (σ:St) (H:Hp) (Q:List (V×V)→Hp→Prop),Inv X pins σ H s→tPairs trs σ H Q →
  wpAny (model X.prog X.w) X.A (evalPairs (pairTrees keys values X.env pos)) (fun vs s'=>∃ ps H',Inv X pins σ H' s'∧VV ps vs∧Q ps H') X.xe s
theorem pps_nil {X:Cx}{pos:Pos}:PPs X pos [] [] []:=fun pins s σ H Q I h=>pairTrees_nil_walk ⟨[],H,I,.nil,h⟩
theorem zcl {X:Cx}{pos:Pos}{k v:Expr}{ks:List (Option Expr)}{vs:List Expr}{tk tv:TE}{trs:List (TE×TE)} (hk:PE X k tk) (hv:PE X v tv) (hr:PPs X pos ks vs trs) :
  PPs X pos (some k::ks) (v::vs) ((tk,tv)::trs):=fun pins s σ H Q I h=>
 pairTrees_cons_walk (thn (hk pins s σ H _ I h) fun u s1 ⟨x,H1,I1,rx,q1⟩=>thn (hv pins s1 σ H1 _ I1 q1) fun w2 s2 ⟨y,H2,I2,ry,q2⟩=>
  thn (hr pins s2 σ H2 _ I2 q2) fun ws s3 ⟨ps,H3,I3,rel,q3⟩=>⟨(x,y)::ps,H3,I3,.cons ⟨rx,ry⟩ rel,q3⟩)
def mergeK (kvs more:List (Key×V)):List (Key×V):=more.foldl (fun acc kv=>putK acc kv.1 kv.2) kvs
theorem KV.merge:∀ {more:List (Key×V)}{rs:List (Key×Value)}{kvs:List (Key×V)}{vs:List (Key×Value)},KV more rs→KV kvs vs→KV (mergeK kvs more) (merged vs rs):=by
 intro more rs kvs vs r
 unfold KV at r
 induction r generalizing kvs vs with
 | nil=>intro q;exact q
 | @cons p q ps qs h t ih=>
  intro r0
  have e:KV (putK kvs p.1 p.2) (stored vs q.1 q.2):=by
   have:=r0.put p.1 h.2
   rw[← h.1];exact this
  exact ih e
theorem zbP:∀ (more kvs:List (Key×V)),(mergeK kvs more).length≤kvs.length+more.length
 | [],kvs=>by show kvs.length≤kvs.length+0;omega
 | p::r,kvs=>by
  have h1:=zbP r (putK kvs p.1 p.2)
  have h2:=zbB kvs p.1 p.2
  show(mergeK (putK kvs p.1 p.2) r).length≤_
  rw[List.length_cons];omega
theorem zdh {P:Program}{w:World}:∀ {kvs:List (Key×V)}{ws:List (Value×Value)},VV (kvs.map fun kv=>(kV kv.1,kv.2)) ws→∃ rs,Carries (mixKind P w) ws rs∧KV kvs rs
 | [],_,r=>by rw[List.map_nil] at r;cases r;exact⟨[],True.intro,.nil⟩
 | p::kvs,_,r=>by
  rw[List.map_cons] at r
  cases r with
  | @cons a b as bs h t=>
   obtain⟨rs,c,q⟩:=zdh (P:=P) (w:=w) t
   obtain⟨b1,b2⟩:=b
   exact⟨(p.1,b2)::rs,⟨kV_is h.1,rfl,c⟩,.cons ⟨rfl,h.2⟩ q⟩
def tDisp (trs:List (TE×TE)):TE:=fun σ H Q=>∀ p,H p=none→tPairs trs σ (upd H p (.dK [])) fun ps H2=>H2 p=some (.dK [])∧∃ kvs:List (Key×V),ps=kvs.map (fun kv=>(kV kv.1,kv.2))∧kvs.length≤15∧Q (.ref p) (upd H2 p (.dK (mergeK [] kvs)))
theorem pe_disp {X:Cx}{pos:Pos}{keys:List (Option Expr)}{values:List Expr}{trs:List (TE×TE)} (h:PPs X pos keys values trs) (hall:keys.all (·.isSome)=true) (hl:keys.length=values.length) (h0:keys≠[])
  (h15:keys.length≤15):PE X (.Dict keys values pos) (tDisp trs):=by
 intro pins s σ H Q I q
 have hn:=I.hok.fresh (Nat.le_refl s.heap.objs.size)
 have I1:=I.laid (a:=s.heap.objs.size) (o:=.dK []) (h':=s.heap.push { cls:=.type "dict",data:=.dict #[] }) (t':=s.toks) (fun _ _ q=>Heap.get?_push_of_some _ q) (Nat.le_refl _) (dk_empty s.heap I.big)
 refine wpAny_Dict_walk (knd:=mixKind X.prog X.w) hall hl h0 h15 (thn (h pins _ σ _ _ I1 (q _ hn)) fun ws s2 ⟨ps,H2,I2,rel,e,kvs,ep,lk,q2⟩=>?_)
 subst ep
 obtain⟨rs,c,rk⟩:=zdh (P:=X.prog) (w:=X.w) rel
 obtain⟨z,hd,vs0,r0,dd⟩:=dk_of I2.hok e
 cases r0
 refine⟨rs,c,dd,fun h' dd' hs=>⟨.ref s.heap.objs.size,_,?_,rfl,q2⟩⟩
 have hz:(mergeK [] kvs).length≤sizeLine:=by
  have h1:=zbP kvs []
  rw[List.length_nil] at h1
  rw[sizeLine_eq];omega
 have he:∃ q,h'.get? s.heap.objs.size=some q:=let ⟨q,_,_,hq,_⟩:=dd';⟨q,hq⟩
 exact zfl I2 (by rw[e];exact True.intro) hs he (dk_new hz hd (rk.merge .nil) dd')
section
variable {X:Cx}{pins:List (Addr×Obj)}{σ:St}{H:Hp}{s:Shared}{a:Addr}{y d:V}{u r:Value}{o:Option V}{A:Around}{E:Value→Shared→Prop}
end
section
variable {X:Cx}{o e f:Expr}{apos cpos:Pos}{td ty tx:TE}
end
section
variable {X:Cx}{pins:List (Addr×Obj)}{σ:St}{H:Hp}{s:Shared}{a:Addr}{kvs:List (Key×V)}{A:Around}{E:Value→Shared→Prop}
end
section
variable {X:Cx}{pins:List (Addr×Obj)}{σ:St}{H:Hp}{s:Shared}{a:Addr}{y:V}{u:Value}{A:Around}{E:Value→Shared→Prop}
end
end L2
namespace HT
open PySem PyProof.Rows
section
open PySem.SeqAt
open PySem.AutoSeq1 (wpAny_loadPart')
open PySem.MeetsSeq PySem.MeetsSeq2 PySem.MeetsSeq3
end
section
variable {prog:Program}{w:World}{A:Around}{E:Value→Shared→Prop}{s:Shared}
theorem cat_tup {t b:Addr}{vs ws:List Value}{Q:Value→Shared→Prop} (ht:IsTup s.heap t vs.toArray) (hb:IsTup s.heap b ws.toArray) (hv:vs≠[])
  (h1:ws=[]→Q (.ref t) s) (h2:ws≠[]→Q (.ref s.heap.objs.size) { s with heap:=s.heap.push { cls:=.type "tuple",data:=.seq (vs++ws).toArray } })
  (hsz:vs.length+ws.length≤sizeLine):wpAny (model prog w) A (binaryOp .Add (.ref t) (.ref b)) Q E s:=by
 obtain⟨⟨cls,dd,data,sl⟩,ho,hc,n,hd⟩:=id ht
 obtain⟨⟨cls2,dd2,data2,sl2⟩,ho2,hc2,n2,hd2⟩:=id hb
 simp only at hc hd hc2 hd2
 subst hc hd hc2 hd2
 have e:vs.toArray++ws.toArray=(vs++ws).toArray:=by simp
 by_cases hw:ws=[]
 ·exact concat_meets ⟨_,ho,rfl⟩ ⟨_,ho2,rfl⟩ noFill_tuple_add seq_tuple_add PySem.F.slot_tuple_add PySem.F.entry_tuple_add (PySem.F.args_tuple_add_2 _ _)
   (tuple_addW1 t b vs.toArray ws.toArray n n2 dd dd2 sl sl2 (by simpa using hv) (by simp [hw])) ⟨ho,ho2,h1 hw⟩
 ·refine concat_meets ⟨_,ho,rfl⟩ ⟨_,ho2,rfl⟩ noFill_tuple_add seq_tuple_add PySem.F.slot_tuple_add PySem.F.entry_tuple_add (PySem.F.args_tuple_add_2 _ _)
   (tuple_addW2 t b vs.toArray ws.toArray n n2 dd dd2 sl sl2 (by simpa using hv) (by simpa using hw) (by rw[List.size_toArray,List.size_toArray];exact hsz)) ⟨ho,ho2,?_⟩
  rw[e]
  exact h2 hw
def sIx (n d:Nat):Option Int→Nat
 | none=>d
 | some v=>if v<0 then (v+(n:Int)).toNat else min v.toNat n
theorem sIx_none (n d:Nat):sIx n d none=d:=rfl
theorem sIx_le (n d:Nat) (hd:d≤n) (o:Option Int):sIx n d o≤n:=by
 cases o with
 | none=>exact hd
 | some v=>
  show(if v<0 then (v+(n:Int)).toNat else min v.toNat n)≤n
  by_cases hv:v<0
  ·rw[if_pos hv];omega
  ·rw[if_neg hv];exact Nat.min_le_right _ _
theorem clip_eq (v:Int) (n d:Nat):(if v<0 then max (v+(n:Int)) 0 else min v (n:Int))=((sIx n d (some v):Nat):Int):=by
 show(if v<0 then max (v+(n:Int)) 0 else min v (n:Int))=(((if v<0 then (v+(n:Int)).toNat else min v.toNat n):Nat):Int)
 by_cases hv:v<0
 ·simp only[if_pos hv];omega
 ·simp only[if_neg hv];omega
theorem adjust_gen (lo hi:Option Int) (n:Nat):Builtin.Slice.sliceAdjust lo hi 1 (n:Int)=(((sIx n 0 lo:Nat):Int),((sIx n n hi:Nat):Int)):=by
 have h1:¬ ((1:Int)<0):=by omega
 unfold Builtin.Slice.sliceAdjust
 simp only[h1,if_false]
 refine Prod.ext ?_ ?_
 ·cases lo with
  | none=>rfl
  | some v=>exact clip_eq v n 0
 ·cases hi with
  | none=>rfl
  | some v=>exact clip_eq v n n
theorem places_gen (i j:Nat):Builtin.Slice.slicePlaces (i:Int) (j:Int) 1=j-i:=by
 unfold Builtin.Slice.slicePlaces
 have h1:(1:Int) > 0:=by omega
 simp only[h1,if_true,Int.ediv_one]
 split<;>omega
theorem zcY {v:Value}{o:Option Int}{Q:Option Int→Shared→Prop} (p:IsPart v o) (h:Q o s):wpAny (model prog w) A (Builtin.Slice.slicePartIndex v) Q E s:=by
 cases p with
 | none=>exact slicePart_none h
 | int i t=>exact slicePart_int h
theorem sliceApplied_gen {sl:Addr}{vl vu:Value}{lo hi:Option Int}{n:Nat}{Q:Int×Int×Nat→Shared→Prop} (hs:s.heap.IsSliceOf sl vl vu .none) (pl:IsPart vl lo) (pu:IsPart vu hi)
  (h:Q (((sIx n 0 lo:Nat):Int),1,sIx n n hi-sIx n 0 lo) s):wpAny (model prog w) A (Builtin.Slice.sliceApplied (.ref sl) (pure (n:Int))) Q E s:=by
 obtain⟨os,hos,hcs,hds⟩:=id hs
 unfold Builtin.Slice.sliceApplied Builtin.Slice.sliceFields
 refine wpAny_bind (wpAny_bind (wpAny_field hos hds (x:=vl) rfl (wpAny_bind (wpAny_field hos hds (x:=vu) rfl (wpAny_bind (wpAny_field hos hds (x:=.none) rfl (wpAny_pure ?_)))))))
 refine wpAny_bind (slicePart_none ?_)
 show wpAny _ _ (if ((1:Int)==0)=true then _ else _) _ _ s
 rw[if_neg (by decide)]
 refine wpAny_bind (zcY pl (wpAny_bind (zcY pu (wpAny_bind (wpAny_pure ?_)))))
 show wpAny _ _ (match Builtin.Slice.sliceAdjust lo hi 1 (n:Int) with | (lo,hi)=>pure (lo,(1:Int),Builtin.Slice.slicePlaces lo hi 1)) _ _ s
 rw[adjust_gen lo hi n]
 show wpAny _ _ (pure (((sIx n 0 lo:Nat):Int),(1:Int),Builtin.Slice.slicePlaces ((sIx n 0 lo:Nat):Int) ((sIx n n hi:Nat):Int) 1)) _ _ s
 rw[places_gen]
 exact wpAny_pure h
theorem pick_gen (xs:Array Value) (i k:Nat):((List.range k).filterMap fun(m:Nat)=>xs[((i:Int)+(m:Int)*1).toNat]?).toArray=((xs.toList.drop i).take k).toArray:=by
 have e:(fun(m:Nat)=>xs[((i:Int)+(m:Int)*1).toNat]?)=fun m=>xs[i+m]?:=by
  funext m
  have:((i:Int)+(m:Int)*1).toNat=i+m:=by omega
  rw[this]
 rw[e]
 have:=pick_run xs i k
 rw[List.filterMap_map] at this
 have e2:((fun x=>xs[x]?)∘fun x=>i+x)=fun m=>xs[i+m]?:=rfl
 rw[e2] at this
 rw[this]
theorem getItem_tuple_cut {t sl:Addr}{items:Array Value}{vl vu:Value}{lo hi:Option Int}{Q:Value→Shared→Prop} (ht:IsTup s.heap t items) (hs:s.heap.IsSliceOf sl vl vu .none) (pl:IsPart vl lo) (pu:IsPart vu hi)
  (hw:¬ (sIx items.size 0 lo=0∧sIx items.size items.size hi=items.size))
  (h:Q (.ref s.heap.objs.size) { s with heap:=s.heap.push { cls:=.type "tuple",data:=.seq ((items.toList.drop (sIx items.size 0 lo)).take (sIx items.size items.size hi-sIx items.size 0 lo)).toArray } })
  (hsz:items.size≤sizeLine):wpAny (model prog w) A (getItem (.ref t) (.ref sl)) Q E s:=by
 have htake:sizeOk (.seq ((items.toList.drop (sIx items.size 0 lo)).take (sIx items.size items.size hi-sIx items.size 0 lo)).toArray):=by
  show((items.toList.drop (sIx items.size 0 lo)).take (sIx items.size items.size hi-sIx items.size 0 lo)).toArray.size≤sizeLine
  rw[List.size_toArray,List.length_take,List.length_drop,Array.length_toList]
  omega
 have hj:sIx items.size items.size hi≤items.size:=sIx_le _ _ (Nat.le_refl _) hi
 obtain⟨os,hos,hcs,hds⟩:=id hs
 have hTs:s.TypeIs (.ref sl) "slice":=⟨os,hos,hcs⟩
 unfold getItem
 try with_reducible refine wpAny_holding ?_
 first | refine wpAny_bind (wpAny_pure ?_) | skip
 refine wpAny_bind (wpAny_sequenceKey ht.typeIs (by decide) ?_)
 refine wpAny_bind (wpAny_callSpecial?_slot (name:=Str.ofString "__getitem__") ht.typeIs PyProof.Rows.slot_tuple_getitem
  (wpAny_call_entry PyProof.Rows.slot_tuple_getitem ht.typeIs entry_tuple_getitem ?_ (args_tuple_getitem _ _)))
 show wpAny _ _ (Builtin.Tuple.tupleItemsOf (.ref t) >>= _) _ _ s
 refine wpAny_bind (tupleItemsOf_ ht ?_)
 refine wpAny_bind (wpAny_typeOf hTs ?_)
 rw[if_pos (by decide)]
 refine wpAny_bind (sliceApplied_gen hs pl pu ?_)
 have hno:¬ ((((sIx items.size 0 lo:Nat):Int)==0&&(1:Int)==1&&(sIx items.size items.size hi-sIx items.size 0 lo)==items.size)=true):=by
  intro q
  rw[Bool.and_eq_true,Bool.and_eq_true] at q
  have q1:((sIx items.size 0 lo:Nat):Int)=0:=eq_of_beq q.1.1
  have q2:sIx items.size items.size hi-sIx items.size 0 lo=items.size:=eq_of_beq q.2
  exact hw ⟨by omega,by omega⟩
 show wpAny _ _ (if (((sIx items.size 0 lo:Nat):Int)==0&&(1:Int)==1&&(sIx items.size items.size hi-sIx items.size 0 lo)==items.size)=true then _ else _) _ _ s
 rw[if_neg hno,pick_gen]
 first
  | exact wpAny_bind (m:=Builtin.Tuple.tupleExact _) (wpAny_newObj_type (wpAny_pure ⟨_,rfl,wpAny_pure h⟩) htake)
  | exact wpAny_bind (m:=Builtin.Tuple.tupleExact _) (wpAny_newObj_type (wpAny_bind (wpAny_pure (wpAny_pure ⟨_,rfl,wpAny_pure h⟩))) htake)
  | exact wpAny_bind (wpAny_bind (m:=Builtin.Tuple.tupleExact _) (wpAny_newObj_type (wpAny_pure (wpAny_pure ⟨_,rfl,wpAny_pure h⟩)) htake))
  | exact wpAny_bind (wpAny_bind (m:=Builtin.Tuple.tupleExact _) (wpAny_newObj_type (wpAny_pure ⟨_,rfl,wpAny_pure h⟩) htake))
end
end HT
namespace L2
open PySem PySem.Spec PyProof.Rows
abbrev TO:=St→Hp→(Option Int→Hp→Prop)→Prop
def PO (X:Cx) (e:Option Expr) (t:TO):Prop:=
 ∀ (pins:List (Addr×Obj)) (s:Shared) (σ:St) (H:Hp) (Q:Option Int→Hp→Prop),Inv X pins σ H s→t σ H Q →
  wpAny (model X.prog X.w) X.A (evalPart e X.env) (fun u s'=>∃ o H',Inv X pins σ H' s'∧IsPart u o∧Q o H') X.xe s
def tNoPart:TO:=fun _ H Q=>Q none H
def tPart (t:TE):TO:=fun σ H Q=>t σ H fun x H1=>∃ i,x=.int i∧Q (some i) H1
section
variable {X:Cx}{e:Expr}{te:TE}{lo hi:Option Expr}{tl th:TO}{pos p2:Pos}
theorem po_none:PO X none tNoPart:=by
 intro pins s σ H Q I h
 rw[evalPart_none]
 exact wpAny_pure ⟨none,H,I,.none,h⟩
theorem po_some (h:PE X e te):PO X (some e) (tPart te):=by
 intro pins s σ H Q I hw
 rw[evalPart_some]
 refine thn (h pins s σ H _ I hw) fun u s1 ⟨x,H1,I1,r1,q1⟩=>?_
 obtain⟨i,rfl,q⟩:=q1
 obtain⟨t,rfl⟩:=r1
 exact⟨some i,H1,I1,.int i t,q⟩
def SlR (X:Cx) (r:V→Option Int→Option Int→Hp→VK→Prop):Prop:=
 ∀ (pins:List (Addr×Obj)) (s:Shared) (σ:St) (H:Hp) (x:V) (v vl vu:Value) (lo hi:Option Int) (sl:Addr) (Q:VK),Inv X pins σ H s→RelV x v→s.heap.IsSliceOf sl vl vu .none→IsPart vl lo→IsPart vu hi→r x lo hi H Q →
  ∃ T id,typeLookup (.type T) "__getitem__"=pure (some (.builtin id))∧s.TypeIs v T∧wpAny (model X.prog X.w) X.A (getItem v (.ref sl)) (EP X pins σ Q) X.xe s
theorem SlR.or {r r':V→Option Int→Option Int→Hp→VK→Prop} (h:SlR X r) (h':SlR X r'):SlR X (fun x lo hi H Q=>r x lo hi H Q∨r' x lo hi H Q):=by
 intro pins s σ H x v vl vu lo hi sl Q I rx hs pl pu q
 rcases q with q | q
 ·exact h pins s σ H x v vl vu lo hi sl Q I rx hs pl pu q
 ·exact h' pins s σ H x v vl vu lo hi sl Q I rx hs pl pu q
def tSl (r:V→Option Int→Option Int→Hp→VK→Prop) (te:TE) (tl th:TO):TE:=fun σ H Q=>te σ H fun x H1=>tl σ H1 fun l H2=>th σ H2 fun u H3=>r x l u H3 Q
theorem zfA {r:V→Option Int→Option Int→Hp→VK→Prop} (hr:SlR X r) (he:PE X e te) (hl:PO X lo tl) (hu:PO X hi th):PE X (.Subscript e (.Slice lo hi none p2) pos) (tSl r te tl th):=by
 intro pins s σ H Q I h
 refine Subscript_ (thn (he pins s σ H _ I h) fun v s1 ⟨x,H1,I1,r1,q1⟩=>?_)
 refine wpAny_Slice (thn (hl pins s1 σ H1 _ I1 q1) fun vl s2 ⟨l,H2,I2,pl,q2⟩=>thn (hu pins s2 σ H2 _ I2 q2) fun vu s3 ⟨u,H3,I3,pu,q3⟩=>?_)
 rw[evalPart_none]
 refine wpAny_pure ?_
 have I4:Inv X pins σ H3 { s3 with heap:=s3.heap.push { cls:=.type "slice",data:=.fields #[vl,vu,.none] } }:=I3.kept (t':=s3.toks) fun b ob q=>Heap.get?_push_of_some _ q
 obtain⟨T,id,hT,ht,hg⟩:=hr pins { s3 with heap:=s3.heap.push { cls:=.type "slice",data:=.fields #[vl,vu,.none] } } σ H3 x v vl vu l u s3.heap.objs.size Q I4 r1 (Heap.IsSliceOf.new ..) pl pu q3
 show wpAny (model X.prog X.w) X.A (subscriptTail e (.Slice lo hi none p2) v (.ref s3.heap.objs.size)) (EP X pins σ Q) X.xe { s3 with heap:=s3.heap.push { cls:=.type "slice",data:=.fields #[vl,vu,.none] } }
 exact tail_any (ops:=[.ref s3.heap.objs.size,v]) ht hT hg (by with_unfolding_all rfl)
def cutV (xs:List V) (lo hi:Option Int):List V:=(xs.drop (HT.sIx xs.length 0 lo)).take (HT.sIx xs.length xs.length hi-HT.sIx xs.length 0 lo)
theorem zcO (xs:List V) (lo hi:Option Int):(cutV xs lo hi).length≤xs.length:=by
 unfold cutV
 rw[List.length_take,List.length_drop]
 omega
def rSlT (K:PySem.W.Frag):V→Option Int→Option Int→Hp→VK→Prop:=fun x lo hi H Q=>∃ a xs,x=.ref a∧SqT K H a xs ∧
 ¬ (HT.sIx xs.length 0 lo=0∧HT.sIx xs.length xs.length hi=xs.length)∧∀ p,H p=none→Q (.ref p) (upd H p (.tup (cutV xs lo hi)))
theorem sl_tup:SlR X (rSlT X.K):=by
 intro pins s σ H x v vl vu lo hi sl Q I rx hs pl pu h
 obtain⟨a,xs,rfl,hx,hw,q⟩:=h
 cases rx
 obtain⟨its,r,ht,hz⟩:=I.tuple hx
 have hlen:its.toArray.size=xs.length:=by rw[List.size_toArray];exact r.length.symm
 refine⟨"tuple",_,PyProof.Rows.slot_tuple_getitem.lookup,ht.typeIs,?_⟩
 refine HT.getItem_tuple_cut ht hs pl pu (by rw[hlen];exact hw) ?_ (by rw[hlen];exact hz)
 rw[hlen]
 refine⟨.ref s.heap.objs.size,_,I.laid (t':=s.toks) (o:=.tup (cutV xs lo hi)) (fun b ob q=>Heap.get?_push_of_some _ q) (Nat.le_refl _) ?_,rfl,q _ (I.hok.fresh (Nat.le_refl _))⟩
 exact⟨Nat.le_trans (zcO xs lo hi) hz,_,(r.drop (HT.sIx xs.length 0 lo)).take (HT.sIx xs.length xs.length hi-HT.sIx xs.length 0 lo),IsTup.new _ _⟩
def rCatT (K:PySem.W.Frag):R2:=fun x y H Q=>∃ a b xs ys,x=.ref a∧y=.ref b∧SqT K H a xs∧SqT K H b ys∧xs≠[]∧xs.length+ys.length≤sizeLine ∧
 (ys=[]→Q (.ref a) H)∧(ys≠[]→∀ p,H p=none→Q (.ref p) (upd H p (.tup (xs++ys))))
theorem Vals.nil_iff {xs:List V}{us:List Value} (r:Vals xs us):us=[]↔xs=[]:=by
 cases r with
 | nil=>simp
 | cons _ _=>simp
theorem op_catT:OpR X (binaryOp .Add) (rCatT X.K):=by
 intro pins s σ H x y v u Q I rx ry h
 obtain⟨a,b,xs,ys,rfl,rfl,ha,hb,hx,hz,q1,q2⟩:=h
 cases rx
 cases ry
 obtain⟨its,r1,p1,_⟩:=I.tuple ha
 obtain⟨its2,r2,p2,_⟩:=I.tuple hb
 refine HT.cat_tup p1 p2 (fun z=>hx (r1.nil_iff.mp z)) (fun z=>⟨.ref a,H,I,rfl,q1 (r2.nil_iff.mp z)⟩) (fun z=>?_) (by rw[← r1.length,← r2.length];exact hz)
 refine⟨.ref s.heap.objs.size,_,I.laid (t':=s.toks) (o:=.tup (xs++ys)) (fun b ob q=>Heap.get?_push_of_some _ q) (Nat.le_refl _) ?_,rfl,q2 (fun w=>z (r2.nil_iff.mpr w)) _ (I.hok.fresh (Nat.le_refl _))⟩
 exact⟨by rw[List.length_append];exact hz,_,r1.append r2,IsTup.new _ _⟩
end
end L2
namespace L2
open PySem PySem.Spec PyProof.Rows
def ixN (n:Nat) (i:Int):Option Nat:=if 0≤i then (if i<n then some i.toNat else none) else if -(n:Int)≤i then some (i+n).toNat else none
def atI {α:Type} (xs:List α) (i:Int):Option α:=(ixN xs.length i).bind fun j=>xs[j]?
theorem ixN_seq {n:Nat}{i:Int}{j:Nat} (h:ixN n i=some j):seqIndex? i n=some j∧j<n ∧ -(n:Int)≤i∧i<n:=by
 unfold ixN at h
 by_cases h0:0≤i
 ·rw[if_pos h0] at h
  by_cases h1:i<n
  ·rw[if_pos h1] at h
   have e:i.toNat=j:=Option.some.inj h
   exact⟨by rw[seqIndex_of h0 h1,e],by omega,by omega,h1⟩
  ·rw[if_neg h1] at h;cases h
 ·rw[if_neg h0] at h
  by_cases h1:-(n:Int)≤i
  ·rw[if_pos h1] at h
   have e:(i+n).toNat=j:=Option.some.inj h
   exact⟨by rw[seqIndex_neg (by omega) h1,e],by omega,h1,by omega⟩
  ·rw[if_neg h1] at h;cases h
theorem zfr {α:Type}{xs:List α}{i:Int}{v:α} (h:atI xs i=some v):∃ j,seqIndex? i xs.length=some j∧xs[j]?=some v∧j<xs.length ∧ -(xs.length:Int)≤i∧i<xs.length:=by
 unfold atI at h
 cases e:ixN xs.length i with
 | none=>rw[e] at h;cases h
 | some j=>
  rw[e] at h
  obtain⟨h1,h2,h3,h4⟩:=ixN_seq e
  exact⟨j,h1,h,h2,h3,h4⟩
theorem zfq {α:Type}{xs:List α}{j:Nat}{v:α} (h:xs[j]?=some v):atI xs (j:Int)=some v:=by
 have hj:j<xs.length:=(List.getElem?_eq_some_iff.mp h).1
 have e:ixN xs.length (j:Int)=some j:=by
  unfold ixN
  rw[if_pos (by omega),if_pos (by omega)];simp
 unfold atI;rw[e];exact h
def PlainIx (b:Expr):Prop:=∀ o i,subscripted b false o i=operate [o,i] (getItem o i)
def IxR (X:Cx) (r:R2):Prop:=
 ∀ (value slice:Expr) (pins:List (Addr×Obj)) (s:Shared) (σ:St) (H:Hp) (x y:V) (v u:Value) (Q:VK),Inv X pins σ H s→RelV x v→RelV y u→r x y H Q →
  subscripted slice false v u=operate [v,u] (getItem v u)→wpAny (model X.prog X.w) X.A (subscriptTail value slice v u) (EP X pins σ Q) X.xe s
def MtR (X:Cx) (id:String) (r:V→List V→Hp→VK→Prop):Prop:=
 ∀ (pins:List (Addr×Obj)) (s:Shared) (σ:St) (H:Hp) (x:V) (xs:List V) (v:Value) (us:List Value) (Q:VK),Inv X pins σ H s→RelV x v→Vals xs us→r x xs H Q →
  wpAny (model X.prog X.w) X.A (call (.builtin id) (v::us)) (EP X pins σ Q) X.xe s
section
variable {X:Cx}{a b:Expr}{ta tb:TE}{pos:Pos}
theorem IxR.or {r r':R2} (h:IxR X r) (h':IxR X r'):IxR X (fun x y H Q=>r x y H Q∨r' x y H Q):=by
 intro value slice pins s σ H x y v u Q I rx ry q hs
 rcases q with q | q
 ·exact h value slice pins s σ H x y v u Q I rx ry q hs
 ·exact h' value slice pins s σ H x y v u Q I rx ry q hs
theorem pe_ix {r:R2} (hr:IxR X r) (ha:PE X a ta) (hb:PE X b tb) (hs:PlainIx b):PE X (.Subscript a b pos) (tOp r ta tb):=by
 intro pins s σ H Q I h
 exact Subscript_ (binT ha hb I h fun v u s2 x y H2 I2 rx ry q=>hr a b pins s2 σ H2 x y v u Q I2 rx ry q (hs _ _))
def rIxL (K:PySem.W.Frag):R2:=fun x y H Q=>∃ p xs i v,x=.ref p∧y=.int i∧SqL K H p xs∧atI xs i=some v∧Q v H
def rIxT (K:PySem.W.Frag):R2:=fun x y H Q=>∃ p xs i v,x=.ref p∧y=.int i∧SqT K H p xs∧atI xs i=some v∧Q v H
def rIxS:R2:=fun x y H Q=>∃ z i c,x=.str z∧y=.int i∧z.length≤sizeLine∧atI z.cps.toList i=some c∧Q (.str ⟨#[c]⟩) H
theorem ix_list:IxR X (rIxL X.K):=by
 intro value slice pins s σ H x y v u Q I rx ry h hs
 obtain⟨p,xs,i,z,rfl,rfl,hq,he,q⟩:=h
 cases rx
 obtain⟨t,rfl⟩:=ry
 obtain⟨its,r,pl,hz⟩:=I.list hq
 obtain⟨j,h1,h2,h3,h4,h5⟩:=zfr he
 obtain⟨w,ew,rw'⟩:=r.get h2
 have hl:=r.length
 have hn:=zcB
 have fin:EP X pins σ Q w s:=⟨z,H,I,rw',q⟩
 by_cases h0:0≤i
 ·have hj:i.toNat=j:=by
   rw[seqIndex_of h0 h5] at h1
   exact Option.some.inj h1
  exact item_listR pl.isList h0 (by omega) (by rw[hj];simpa using ew) fin hs
 ·have hj:(i+(its.toArray.size:Int)).toNat=j:=by
   rw[seqIndex_neg (by omega) h4] at h1
   rw[List.size_toArray,← hl]
   exact Option.some.inj h1
  exact subscriptTail_builtinR (x:=w) pl.isList.typeIs slot_list_getitem.lookup
   (wpAny_getItem_list_neg (Q:=fun r s'=>r=w∧EP X pins σ Q r s') pl.isList (by omega) (by rw[List.size_toArray]<;>omega) (by omega) (by rw[hj];simpa using ew) ⟨rfl,fin⟩) hs
theorem ix_tup:IxR X (rIxT X.K):=by
 intro value slice pins s σ H x y v u Q I rx ry h hs
 obtain⟨p,xs,i,z,rfl,rfl,hq,he,q⟩:=h
 cases rx
 obtain⟨t,rfl⟩:=ry
 obtain⟨its,r,pl,hz⟩:=I.tuple hq
 obtain⟨j,h1,h2,h3,h4,h5⟩:=zfr he
 obtain⟨w,ew,rw'⟩:=r.get h2
 have hl:=r.length
 have hn:=zcB
 have fin:EP X pins σ Q w s:=⟨z,H,I,rw',q⟩
 exact subscriptTail_builtinR (x:=w) pl.typeIs slot_tuple_getitem.lookup
  (getItem_tuple (j:=j) (Q:=fun r s'=>r=w∧EP X pins σ Q r s') pl (by omega) (by omega) (by rw[List.size_toArray,← hl];exact h1) (by simpa using ew) ⟨rfl,fin⟩) hs
theorem ix_str:IxR X rIxS:=by
 intro value slice pins s σ H x y v u Q I rx ry h hs
 obtain⟨z,i,c,rfl,rfl,hz,he,q⟩:=h
 obtain⟨t,rfl⟩:=rx
 obtain⟨t',rfl⟩:=ry
 obtain⟨j,h1,h2,h3,h4,h5⟩:=zfr he
 have hl:z.cps.toList.length=z.length:=by simp [Str.length]
 rw[hl] at h1 h4 h5
 have hn:=zcB
 exact tail_any (typeIs_str s z t) slot_str_getitem.lookup (getItem_str (c:=c) (by
  have e1:decide (i < -(2 ^ 63:Int))=false:=decide_eq_false (by omega)
  have e2:decide (i≥2 ^ 63)=false:=decide_eq_false (by omega)
  rw[e1,e2,Bool.or_false]) (by rw[h1];simpa using h2) ⟨.str ⟨#[c]⟩,H,I.tok _,⟨_,rfl⟩,q⟩) hs
def rIx (K:PySem.W.Frag):R2:=fun x y H Q=>rIxL K x y H Q∨rIxT K x y H Q∨rIxS x y H Q
theorem ix_seq:IxR X (rIx X.K):=ix_list.or (ix_tup.or ix_str)
theorem mapSeq_set (its:List Value) (n j:Nat) (u:Value):Obj.mapSeq (·.setIfInBounds j u) { cls:=.type "list",data:=.seq its.toArray n }={ cls:=.type "list",data:=.seq (its.set j u).toArray n }:=by
 simp [Obj.mapSeq]
theorem Inv.lst {pins:List (Addr×Obj)}{σ:St}{H:Hp}{s:Shared}{p:Addr}{xs:List V} (I:Inv X pins σ H s) (h:H p=some (.lst xs)) :
  ∃ (its:List Value) (n:Nat),Vals xs its∧s.heap.get? p=some { cls:=.type "list",data:=.seq its.toArray n }∧xs.length≤sizeLine:=by
 obtain⟨z,its,n,r,e⟩:=I.hok p _ h
 exact⟨its,n,r,e,z⟩
theorem Inv.lstUpd {pins:List (Addr×Obj)}{σ:St}{H:Hp}{s:Shared}{p:Addr}{xs ys:List V}{its its':List Value}{n n':Nat}{f:Obj→Obj} (I:Inv X pins σ H s) (h:H p=some (.lst xs))
  (ho:s.heap.get? p=some { cls:=.type "list",data:=.seq its.toArray n }) (hf:f { cls:=.type "list",data:=.seq its.toArray n }={ cls:=.type "list",data:=.seq its'.toArray n' }) (r:Vals ys its') (hz:ys.length≤sizeLine) (t:Nat) :
  Inv X pins σ (upd H p (.lst ys)) { s with heap:=s.heap.update p f,toks:=t }:=by
 have e:(s.heap.update p f).get? p=some { cls:=.type "list",data:=.seq its'.toArray n' }:=by
  rw[Heap.get?_update_self f ho (by rw[hf]<;>rfl),hf]
 refine I.write (x:=p) (e:=p) (by rw[h];trivial) (.inl rfl) (fun b u hb q=>(Heap.get?_update_other _ _ (Ne.symm hb)).trans q) ⟨_,e⟩ ?_
 exact⟨hz,its',n',r,e⟩
def rSetL:V→V→V→Hp→(Hp→Prop)→Prop:=fun o i v H Q=>∃ p xs k j,o=.ref p∧i=.int k∧H p=some (.lst xs)∧ixN xs.length k=some j∧Q (upd H p (.lst (xs.set j v)))
theorem set_list:PSet X rSetL:=by
 intro pins s σ H o i v ov iv u Q I ro ri rv h
 obtain⟨p,xs,k,j,rfl,rfl,hp,hj,q⟩:=h
 cases ro
 obtain⟨t,rfl⟩:=ri
 obtain⟨its,n,r,ho,hz⟩:=I.lst hp
 obtain⟨h1,h2,h3,h4⟩:=ixN_seq hj
 have hl:=r.length
 have hn:=zcB
 have I':Inv X pins σ (upd H p (.lst (xs.set j v))) { s with heap:=s.heap.update p (Obj.mapSeq (·.setIfInBounds j u)) }:=
  I.lstUpd hp ho (mapSeq_set its n j u) (r.set rv j) (by rw[List.length_set];exact hz) s.toks
 by_cases h0:0≤k
 ·have hk:k.toNat=j:=by
   rw[seqIndex_of h0 h4] at h1
   exact Option.some.inj h1
  exact PySem.W.ki_setAt ho h0 (by omega) (by rw[List.size_toArray,← hl];exact h4) (by rw[hk];exact⟨_,I',q⟩)
 ·have hk:(k+(its.toArray.size:Int)).toNat=j:=by
   rw[seqIndex_neg (by omega) h3] at h1
   rw[List.size_toArray,← hl]
   exact Option.some.inj h1
  exact PySem.W.ki_setBack ho (by omega) (by rw[List.size_toArray,← hl];exact h3) (by omega) (by rw[hk];exact⟨_,I',q⟩)
theorem zej (lo hi:Option Int) (n:Nat):(sliceBounds lo hi none n).1=((HT.sIx n 0 lo:Nat):Int)∧(sliceBounds lo hi none n).2.1=((HT.sIx n n hi:Nat):Int)∧(sliceBounds lo hi none n).2.2=1:=by
 refine⟨?_,?_,rfl⟩
 ·cases lo with
  | none=>simp [sliceBounds,HT.sIx]
  | some i=>
   simp only[sliceBounds,HT.sIx,Option.getD_none,show(1:Int) > 0 by decide,if_true]
   by_cases h:i<0
   ·simp only[h,if_true]<;>omega
   ·simp only[h,if_false]<;>omega
 ·cases hi with
  | none=>simp [sliceBounds,HT.sIx]
  | some i=>
   simp only[sliceBounds,HT.sIx,Option.getD_none,show(1:Int) > 0 by decide,if_true]
   by_cases h:i<0
   ·simp only[h,if_true]<;>omega
   ·simp only[h,if_false]<;>omega
theorem zdn (its:List Value) (lo hi:Option Int):slicePick its.toArray lo hi none=((its.drop (HT.sIx its.length 0 lo)).take (HT.sIx its.length its.length hi-HT.sIx its.length 0 lo)).toArray:=by
 obtain⟨h1,h2,h3⟩:=zej lo hi its.toArray.size
 unfold slicePick
 rw[h1,h2,h3]
 simp only[sliceRange_one,pick_run,List.size_toArray]<;>rfl
def rSlL (K:PySem.W.Frag):V→Option Int→Option Int→Hp→VK→Prop:=fun x lo hi H Q=>∃ a xs,x=.ref a∧SqL K H a xs∧∀ p,H p=none→Q (.ref p) (upd H p (.lst (cutV xs lo hi)))
theorem sl_list:SlR X (rSlL X.K):=by
 intro pins s σ H x v vl vu lo hi sl Q I rx hs pl pu h
 obtain⟨a,xs,rfl,hx,q⟩:=h
 cases rx
 obtain⟨its,r,ht,hz⟩:=I.list hx
 have hlen:=r.length
 refine⟨"list",_,slot_list_getitem.lookup,ht.isList.typeIs,?_⟩
 refine wpAny_getItem_list_slice ht.isList hs pl pu .none (by simp) ?_ (by rw[List.size_toArray]<;>omega)
 rw[zdn,← hlen]
 refine⟨.ref s.heap.objs.size,_,I.laid (t':=s.toks) (o:=.lst (cutV xs lo hi)) (fun b ob q=>Heap.get?_push_of_some _ q) (Nat.le_refl _) ?_,rfl,q _ (I.hok.fresh (Nat.le_refl _))⟩
 exact⟨Nat.le_trans (zcO xs lo hi) hz,_,0,(r.drop (HT.sIx xs.length 0 lo)).take (HT.sIx xs.length xs.length hi-HT.sIx xs.length 0 lo),Heap.get?_push_size _ rfl⟩
def flatV:V→Bool
 | .non=>true
 | .bl _=>true
 | .int _=>true
 | .str _=>true
 | _=>false
def eqV:V→V→Bool
 | .non,.non=>true
 | .bl a,.bl b=>a==b
 | .bl a,.int b=>(if a then 1 else 0)==b
 | .int a,.bl b=>a==(if b then 1 else 0)
 | .int a,.int b=>a==b
 | .str a,.str b=>a==b
 | _,_=>false
theorem eqAt_V {A:Around}{s:Shared}{y x:V}{u v:Value} (ry:RelV y u) (rx:RelV x v) (fy:flatV y=true) (fx:flatV x=true):SeqAt.EqAt A s u v (eqV y x):=by
 cases y with
 | non=>
  cases ry
  cases x with
  | non=>cases rx;exact SeqAt.EqAt.same _
  | bl b=>cases rx;exact SeqAt.EqAt.none_bool b
  | int b=>obtain⟨t,rfl⟩:=rx;exact SeqAt.EqAt.none_int b t
  | str b=>obtain⟨t,rfl⟩:=rx;exact SeqAt.EqAt.none_str b t
  | _=>exact absurd (show false=true from fx) Bool.false_ne_true
 | bl a=>
  cases ry
  cases x with
  | non=>cases rx;exact SeqAt.EqAt.bool_none a
  | bl b=>cases rx;exact SeqAt.EqAt.bool_bool a b
  | int b=>obtain⟨t,rfl⟩:=rx;exact SeqAt.EqAt.bool_int a b t
  | str b=>obtain⟨t,rfl⟩:=rx;exact SeqAt.EqAt.bool_str a b t
  | _=>exact absurd (show false=true from fx) Bool.false_ne_true
 | int a=>
  obtain⟨t',rfl⟩:=ry
  cases x with
  | non=>cases rx;exact SeqAt.EqAt.int_none a t'
  | bl b=>cases rx;exact SeqAt.EqAt.int_bool a t' b
  | int b=>obtain⟨t,rfl⟩:=rx;exact SeqAt.EqAt.int_int a t' b t
  | str b=>obtain⟨t,rfl⟩:=rx;exact SeqAt.EqAt.int_str a t' b t
  | _=>exact absurd (show false=true from fx) Bool.false_ne_true
 | str a=>
  obtain⟨t',rfl⟩:=ry
  cases x with
  | non=>cases rx;exact SeqAt.EqAt.str_none a t'
  | bl b=>cases rx;exact SeqAt.EqAt.str_bool a t' b
  | int b=>obtain⟨t,rfl⟩:=rx;exact SeqAt.EqAt.str_int a t' b t
  | str b=>obtain⟨t,rfl⟩:=rx;exact SeqAt.EqAt.str_str a t' b t
  | _=>exact absurd (show false=true from fx) Bool.false_ne_true
 | _=>exact absurd (show false=true from fy) Bool.false_ne_true
theorem zen:OpR X (compareOp .NotIn) (fun x y H Q=>∃ i j,x=.str i∧y=.str j∧Q (.bl (!(!(Builtin.Str.occurrences j i 0 j.length 1).isEmpty))) H):=by
 intro pins s σ H x y v u Q I rx ry h
 obtain⟨i,j,rfl,rfl,q⟩:=h
 obtain⟨t,rfl⟩:=rx
 obtain⟨t',rfl⟩:=ry
 exact notIn_str ⟨.bl _,H,I,rfl,q⟩
theorem zaG:CallR X (.builtin "len") (fun xs H Q=>∃ p ys,xs=[.ref p]∧(SqL X.K H p ys∨SqT X.K H p ys)∧Q (.int ys.length) H):=by
 intro pins s σ H xs us Q I r h
 obtain⟨p,ys,rfl,hq,q⟩:=h
 obtain⟨u,rfl,rx⟩:=zeb r
 cases rx
 have hn:=zcB
 rcases hq with hq | hq
 ·obtain⟨its,r',pl,hz⟩:=I.list hq
  have hlen:=r'.length
  exact Calls.call_len_list pl.isList (by simp only[List.size_toArray]<;>omega) ⟨.int ys.length,H,I.tok _,⟨s.toks+1,by rw[List.size_toArray,hlen]⟩,q⟩
 ·obtain⟨its,r',pl,hz⟩:=I.tuple hq
  have hlen:=r'.length
  exact len_tuple pl (by simp only[List.size_toArray]<;>omega) ⟨.int ys.length,H,I.tok _,⟨s.toks+1,by rw[List.size_toArray,hlen]⟩,q⟩
theorem zeG:CallR X (.type "list") (fun xs H Q=>∃ p ys,xs=[.ref p]∧(SqL X.K H p ys∨SqT X.K H p ys)∧∀ l,H l=none→Q (.ref l) (upd H l (.lst ys))):=by
 intro pins s σ H xs us Q I r h
 obtain⟨p,ys,rfl,hq,q⟩:=h
 obtain⟨u,rfl,rx⟩:=zeb r
 cases rx
 have fin:∀ (its:List Value),Vals ys its→ys.length≤sizeLine→∀ (h':Heap) (c':Nat),(∀ b o',s.heap.get? b=some o'→h'.get? b=some o') →
   h'.get? s.heap.objs.size=some { cls:=.type "list",dict:=none,data:=.seq its.toArray c',slots:=#[] }→EP X pins σ Q (.ref s.heap.objs.size) { s with heap:=h' }:=fun its r' hz h' c' kp e=>
  ⟨.ref s.heap.objs.size,_,I.laid (t':=s.toks) kp (Nat.le_refl _) (show ObjOk X.prog X.w _ h' _ (.lst ys) from⟨hz,its,c',r',e⟩),rfl,q _ (I.hok.fresh (Nat.le_refl _))⟩
 rcases hq with hq | hq
 ·obtain⟨its,r',pl,hz⟩:=I.list hq
  have hlen:=r'.length
  obtain⟨o,ho,hc,n,hd⟩:=pl.isList
  exact call_list_seq p (.inl rfl) ho hc hd (fun h' c' kp e=>fin its r' hz h' c' kp e) (by simp only[List.size_toArray]<;>omega)
 ·obtain⟨its,r',pl,hz⟩:=I.tuple hq
  have hlen:=r'.length
  obtain⟨o,ho,hc,n,hd⟩:=pl
  exact call_list_seq p (.inr rfl) ho hc hd (fun h' c' kp e=>fin its r' hz h' c' kp e) (by simp only[List.size_toArray]<;>omega)
theorem zdX:CallR X (.type "tuple") (fun xs H Q=>∃ p ys,xs=[.ref p]∧((SqL X.K H p ys∧∀ l,H l=none→Q (.ref l) (upd H l (.tup ys)))∨(SqT X.K H p ys∧Q (.ref p) H))):=by
 intro pins s σ H xs us Q I r h
 obtain⟨p,ys,rfl,h⟩:=h
 obtain⟨u,rfl,rx⟩:=zeb r
 cases rx
 rcases h with ⟨hq,q⟩ | ⟨hq,q⟩
 ·obtain⟨its,r',pl,hz⟩:=I.list hq
  have hlen:=r'.length
  refine call_tuple_list pl.isList (fun h' kp=>?_) (by simp only[List.size_toArray]<;>omega)
  have I1:Inv X pins σ H { s with heap:=h' }:=I.kept (t':=s.toks) kp
  have I2:Inv X pins σ (upd H h'.objs.size (.tup ys)) { s with heap:=h'.push { cls:=.type "tuple",data:=.seq its.toArray } }:=
   I1.laid (t':=s.toks) (fun b o e=>Heap.get?_push_of_some _ e) (Nat.le_refl _) (show ObjOk X.prog X.w _ _ _ (.tup ys) from⟨hz,its,r',IsTup.new _ _⟩)
  exact⟨.ref h'.objs.size,_,I2,rfl,q _ (I1.hok.fresh (Nat.le_refl _))⟩
 ·obtain⟨its,r',pl,hz⟩:=I.tuple hq
  exact call_tuple_same pl ⟨.ref p,H,I,rfl,q⟩
def tyV (K:PySem.W.Frag) (T:String) (x:V) (H:Hp):Prop:=match x with
 | .str _=>T="str"
 | .int _=>T="int"
 | .ref p=>(T="list"∧∃ xs,SqL K H p xs)∨(T="tuple"∧∃ o,K.lookup p=some o∧o.cls=.type "tuple"∧o.dict=none) ∨
   (T="dict"∧((∃ kvs,H p=some (.dK kvs))∨∃ kvs,H p=some (.dT kvs)))∨(T="set"∧∃ S n,H p=some (.set S n))
 | _=>False
theorem tyV_is {pins:List (Addr×Obj)}{σ:St}{H:Hp}{s:Shared}{T:String}{x:V}{v:Value} (I:Inv X pins σ H s) (r:RelV x v) (ty:tyV X.K T x H) :
  s.TypeIs v T∧∀ a,v=.ref a→∃ ob,s.heap.get? a=some ob∧ob.dict=none:=by
 cases x with
 | str z=>
  obtain⟨t,rfl⟩:=r
  cases (show T="str" from ty)
  exact⟨typeIs_str s z t,fun _ e=>nomatch e⟩
 | int i=>
  obtain⟨t,rfl⟩:=r
  cases (show T="int" from ty)
  exact⟨typeIs_int s i t,fun _ e=>nomatch e⟩
 | ref p=>
  cases r
  rcases ty with ⟨rfl,xs,hq⟩ | ⟨rfl,o,hk,hc,hd⟩ | ⟨rfl,hk⟩ | ⟨rfl,S,n,hk⟩
  ·obtain⟨its,_,pl,_⟩:=I.list hq
   refine⟨pl.isList.typeIs,fun a e=>?_⟩
   cases e
   obtain⟨o,n,e,c,hd,_⟩:=pl
   exact⟨o,e,hd⟩
  ·refine⟨⟨o,I.kIn p o hk,hc⟩,fun a e=>?_⟩
   cases e
   exact⟨o,I.kIn _ o hk,hd⟩
  ·have z:∃ o,s.heap.get? p=some o∧o.ExactDict:=by
    rcases hk with ⟨kvs,hk⟩ | ⟨kvs,hk⟩
    ·obtain⟨_,_,_,_,o,_,_,e,ex,_⟩:=I.hok p _ hk
     exact⟨o,e,ex⟩
    ·obtain⟨_,_,_,_,o,_,_,e,ex,_⟩:=I.hok p _ hk
     exact⟨o,e,ex⟩
   obtain⟨o,e,ex⟩:=z
   refine⟨⟨o,e,ex.1⟩,fun a e2=>?_⟩
   cases e2
   exact⟨o,e,ex.2.1⟩
  ·obtain⟨o,_,_,_,e,ex,_⟩:=I.hok p _ hk
   refine⟨⟨o,e,ex.1⟩,fun a e2=>?_⟩
   cases e2
   exact⟨o,e,ex.2.1⟩
 | _=>exact False.elim ty
def tBM0 (K:PySem.W.Frag) (T:String) (r:V→List V→Hp→VK→Prop) (to:TE):TE:=fun σ H Q=>to σ H fun x H1=>tyV K T x H1∧r x [] H1 Q
def tBM (K:PySem.W.Frag) (T:String) (r:V→List V→Hp→VK→Prop) (to:TE) (t:TA):TE:=fun σ H Q=>to σ H fun x H1=>tyV K T x H1∧t σ H1 fun xs H2=>r x xs H2 Q
variable {o e:Expr}{es:List Expr}{to:TE}{t:TA}{name:Str}{apos cpos:Pos}{T id:String}{r:V→List V→Hp→VK→Prop}
theorem pe_bm0 (pa:PlainAttrs T) (slot:Slot T name id) (hty:typeOf (.builtin id)=pure (.type "method_descriptor")) (hm:MtR X id r) (ho:PE X o to)
  (hbase:attributeBase o name X.env (eval o X.env)=eval o X.env:=by rfl) (hline:(apos.endLine==cpos.line)=true:=by rfl):PE X (.Call (.Attribute o name apos) [] [] cpos) (tBM0 X.K T r to):=by
 intro pins s σ H Q I h
 refine wpAny_Call_method0_late hbase hline (thn (ho pins s σ H _ I h) fun v s1 ⟨x,H1,I1,r1,ty,q1⟩=>?_)
 obtain⟨h1,h2⟩:=tyV_is I1 r1 ty
 exact⟨T,id,pa,slot,hty,h1,h2,Calls.callWith_builtin rfl (PySem.evalArgs_none (hm pins s1 σ H1 x [] v [] Q I1 r1 .nil q1))⟩
theorem pe_bm (pa:PlainAttrs T) (slot:Slot T name id) (hty:typeOf (.builtin id)=pure (.type "method_descriptor")) (hm:MtR X id r) (ho:PE X o to) (ha:PA X (e::es) t)
  (hbase:attributeBase o name X.env (eval o X.env)=eval o X.env:=by rfl)
  (hfew:((backTo cpos (starEach (e::es) X.env)).all (fun x=>!x.1)&&(backToKw cpos (keywordEach [] X.env)).all (fun x=>x.1.isSome)
   && decide ((e::es).length+([]:List Keyword).length+(if ([]:List Keyword).isEmpty then 0 else 1)<30))=true:=by rfl)
  (hline:(apos.endLine==cpos.line)=true:=by rfl) (hs:starEach (e::es) X.env=(false,eval e X.env)::starEach es X.env:=by rfl) (hplain:(backTo cpos (starEach es X.env)).any (·.1)=false:=by rfl) :
  PE X (.Call (.Attribute o name apos) (e::es) [] cpos) (tBM X.K T r to t):=by
 intro pins s σ H Q I h
 refine wpAny_Call_method_late hbase hfew hline rfl (thn (ho pins s σ H _ I h) fun v s1 ⟨x,H1,I1,r1,ty,q1⟩=>?_)
 obtain⟨h1,h2⟩:=tyV_is I1 r1 ty
 refine⟨T,id,pa,slot,hty,h1,h2,?_⟩
 have hA:=ha cpos pins s1 σ H1 _ I1 q1
 rw[hs] at hA ⊢
 refine Calls.callWith_builtin (by show(false||(backTo cpos (starEach es X.env)).any (·.1))=false;rw[hplain]<;>rfl) (Calls.evalArgs_plain ?_)
 exact thn hA fun us s2 ⟨vs,H2,I2,r2,q2⟩=>hm pins s2 σ H2 x vs v us Q I2 r1 r2 q2
end
end L2
namespace L2
open PySem PySem.Spec PyProof.Rows
def MtM (X:Cx) (id:String) (r:V→List V→Hp→VK→Prop):Prop:=
 ∀ (pins:List (Addr×Obj)) (s:Shared) (σ:St) (H:Hp) (x:V) (xs:List V) (v:Value) (us:List Value) (Q:VK),Inv X pins σ H s→RelV x v→Vals xs us→r x xs H Q →
  wpAny (model X.prog X.w) X.A (call (.builtin id) (v::us)) (EP X pins σ Q) X.xe s
theorem Vals.one:∀ {x:V}{us:List Value},Vals [x] us→∃ u,us=[u]∧RelV x u
 | _,_,.cons r .nil=>⟨_,rfl,r⟩
theorem Vals.zero:∀ {us:List Value},Vals [] us→us=[]
 | _,.nil=>rfl
theorem Vals.dropLast {xs:List V}{us:List Value} (h:Vals xs us):Vals xs.dropLast us.dropLast:=by
 induction h with
 | nil=>exact .nil
 | cons r t ih=>
  cases t with
  | nil=>exact .nil
  | cons q t'=>exact .cons r ih
theorem Vals.eraseIdx:∀ {xs:List V}{us:List Value} (i:Nat),Vals xs us→Vals (xs.eraseIdx i) (us.eraseIdx i)
 | _,_,_,.nil=>.nil
 | _,_,0,.cons _ t=>t
 | _,_,i+1,.cons r t=>.cons r (Vals.eraseIdx i t)
theorem Vals.reverse {xs:List V}{us:List Value} (h:Vals xs us):Vals xs.reverse us.reverse:=by
 induction h with
 | nil=>exact .nil
 | cons r t ih=>rw[List.reverse_cons,List.reverse_cons];exact Vals.append ih (.cons r .nil)
theorem erase_last {α:Type} (l:List α):l.eraseIdx (l.length-1)=l.dropLast:=by
 induction l with
 | nil=>rfl
 | cons a r ih=>
  cases r with
  | nil=>rfl
  | cons b r=>
   have e:(a::b::r).length-1=((b::r).length-1)+1:=by
    have h1:(a::b::r).length=r.length+2:=rfl
    have h2:(b::r).length=r.length+1:=rfl
    omega
   rw[e,List.eraseIdx_cons_succ,ih]
   all_goals rfl
theorem zeq {α:Type}:∀ (l:List α) (i:Nat),(l.eraseIdx i).length≤l.length
 | [],_=>Nat.le_refl _
 | _::_,0=>Nat.le_succ _
 | _::r,i+1=>Nat.succ_le_succ (zeq r i)
section
variable {X:Cx}{pins:List (Addr×Obj)}{σ:St}{H:Hp}{s:Shared}{l b:Addr}{xs ys zs:List V}
theorem Inv.lset {its its':List Value}{n:Nat}{f:Array Value→Array Value}{t':Nat} (I:Inv X pins σ H s) (hH:H l=some (.lst xs))
  (e:s.heap.get? l=some { cls:=.type "list",data:=.seq its.toArray n }) (hf:f its.toArray=its'.toArray) (hv:Vals ys its') (hz:ys.length≤sizeLine) :
  Inv X pins σ (upd H l (.lst ys)) { s with heap:=s.heap.update l (Obj.mapSeq f),toks:=t' }:=by
 have q:=PySem.IsL.update e f
 rw[hf] at q
 refine I.write (x:=l) (e:=l) (by rw[hH];exact trivial) (.inl rfl) (fun b' u hb hu=>(Heap.get?_update_other s.heap (Obj.mapSeq f) (Ne.symm hb)).trans hu) ⟨_,q⟩ ?_
 exact⟨hz,its',_,hv,q⟩
theorem Inv.lnew {its:List Value}{t':Nat} (I:Inv X pins σ H s) (hv:Vals ys its) (hz:ys.length≤sizeLine) :
  Inv X pins σ (upd H s.heap.objs.size (.lst ys)) { s with heap:=s.heap.push { cls:=.type "list",data:=.seq its.toArray },toks:=t' }:=
 I.laid (fun _ _ q=>Heap.get?_push_of_some _ q) (Nat.le_refl _) ⟨hz,its,0,hv,Heap.get?_push_size _ rfl⟩
theorem Inv.fresh (I:Inv X pins σ H s):H s.heap.objs.size=none:=I.hok.fresh (Nat.le_refl _)
theorem Inv.lstM (I:Inv X pins σ H s) (hH:H l=some (.lst xs)):xs.length≤sizeLine∧∃ (its:List Value) (n:Nat),Vals xs its∧xs.length=its.length∧s.heap.get? l=some { cls:=.type "list",data:=.seq its.toArray n }:=by
 obtain⟨z,its,n,r,e⟩:=I.hok l _ hH
 exact⟨z,its,n,r,r.length,e⟩
theorem notLongL {n:Nat} (h:n≤sizeLine):Builtin.List.listTooLong n=false:=by
 unfold Builtin.List.listTooLong
 exact decide_eq_false (by omega)
end
section
variable {X:Cx}
def rAppend:V→List V→Hp→VK→Prop:=fun x vs H Q=>∃ l xs y,x=.ref l∧vs=[y]∧H l=some (.lst xs)∧xs.length<sizeLine∧Q .non (upd H l (.lst (xs++[y])))
theorem zep:MtM X "list.append" rAppend:=by
 intro pins s σ H x vs v us Q I rx rv h
 obtain⟨l,xs,y,rfl,rfl,hH,hz,q⟩:=h
 cases rx
 obtain⟨u,rfl,ru⟩:=rv.one
 obtain⟨z,its,n,r,hl,e⟩:=I.lstM hH
 refine call_meets F.slot_list_append ⟨_,e,rfl⟩ F.entry_list_append (F.args_list_append_2 _ _) (PySem.list_append l its.toArray n u (by rw[List.size_toArray];omega)) ⟨e,?_⟩
 refine⟨.non,_,I.lset (its':=its++[u]) hH e (by simp) (r.append (.cons ru .nil)) ?_,rfl,q⟩
 rw[List.length_append,List.length_singleton]
 omega
def rExtend:V→List V→Hp→VK→Prop:=fun x vs H Q=>∃ l b xs zs,x=.ref l∧vs=[.ref b]∧H l=some (.lst xs)∧H b=some (.lst zs)∧xs.length+zs.length≤sizeLine∧Q .non (upd H l (.lst (xs++zs)))
theorem mt_extend:MtM X "list.extend" rExtend:=by
 intro pins s σ H x vs v us Q I rx rv h
 obtain⟨l,b,xs,zs,rfl,rfl,hH,hB,hz,q⟩:=h
 cases rx
 obtain⟨u,rfl,ru⟩:=rv.one
 cases ru
 obtain⟨z,its,n,r,hl,e⟩:=I.lstM hH
 obtain⟨z2,its2,n2,r2,hl2,e2⟩:=I.lstM hB
 have hsz:its.toArray.size+its2.toArray.size≤sizeLine:=by rw[List.size_toArray,List.size_toArray];omega
 have hlong:¬ (!its.toArray.isEmpty&&Builtin.List.listTooLong (its.toArray.size+its2.toArray.size))=true:=by
  rw[notLongL hsz,Bool.and_false]
  exact Bool.false_ne_true
 refine call_meets F.slot_list_extend ⟨_,e,rfl⟩ F.entry_list_extend (F.args_list_extend_2 _ _)
  (AutoSeq1.list_extend_list_list_0 l its.toArray n b its2.toArray n2 hlong (by rw[List.size_toArray];omega) (by omega)) ⟨e,e2,?_⟩
 refine⟨.non,_,I.lset (its':=its++its2) hH e (by simp) (r.append r2) ?_,rfl,q⟩
 rw[List.length_append]
 omega
def rPop:V→List V→Hp→VK→Prop:=fun x vs H Q=>∃ l xs y,x=.ref l∧vs=[]∧H l=some (.lst xs)∧xs[xs.length-1]?=some y∧Q y (upd H l (.lst xs.dropLast))
theorem mt_pop:MtM X "list.pop" rPop:=by
 intro pins s σ H x vs v us Q I rx rv h
 obtain⟨l,xs,y,rfl,rfl,hH,hy,q⟩:=h
 cases rx
 have hus:=rv.zero
 subst hus
 obtain⟨z,its,n,r,hl,e⟩:=I.lstM hH
 obtain⟨u,hu,ru⟩:=r.get hy
 have hy':its.toArray[its.toArray.size-1]?=some u:=by
  show its.toArray[its.length-1]?=some u
  rw[← Array.getElem?_toList,← hl]
  exact hu
 refine call_meets F.slot_list_pop ⟨_,e,rfl⟩ F.entry_list_pop (F.args_list_pop_1 _) (MeetsSeq.list_pop_last l its.toArray n u hy' (by rw[List.size_toArray];omega)) ⟨e,?_⟩
 refine⟨y,_,I.lset (its':=its.dropLast) hH e ?_ r.dropLast ?_,ru,q⟩
 ·show its.toArray.eraseIdxIfInBounds (its.toArray.size-1)=its.dropLast.toArray
  rw[List.size_toArray,List.eraseIdxIfInBounds_toArray,erase_last]
 ·rw[List.length_dropLast]
  omega
def rPopAt:V→List V→Hp→VK→Prop:=fun x vs H Q=>∃ l xs i k y,x=.ref l∧vs=[.int i]∧H l=some (.lst xs) ∧ -(2 ^ 63)≤i∧i<2 ^ 63∧seqIndex? i xs.length=some k∧xs[k]?=some y∧Q y (upd H l (.lst (xs.eraseIdx k)))
theorem mt_popAt:MtM X "list.pop" rPopAt:=by
 intro pins s σ H x vs v us Q I rx rv h
 obtain⟨l,xs,i,k,y,rfl,rfl,hH,h1,h2,hk,hy,q⟩:=h
 cases rx
 obtain⟨u,rfl,ru⟩:=rv.one
 obtain⟨t,rfl⟩:=ru
 obtain⟨z,its,n,r,hl,e⟩:=I.lstM hH
 obtain⟨w,hw,rw'⟩:=r.get hy
 refine call_meets F.slot_list_pop ⟨_,e,rfl⟩ F.entry_list_pop (F.args_list_pop_2 _ _)
  (MeetsSeq.list_pop_at l its.toArray n i t k w (fitsIndex_both h1 h2) (by rw[List.size_toArray,← hl];exact hk) (by rw[← Array.getElem?_toList];exact hw) (by rw[List.size_toArray];omega)) ⟨e,?_⟩
 refine⟨y,_,I.lset (its':=its.eraseIdx k) hH e ?_ (r.eraseIdx k) ?_,rw',q⟩
 ·show its.toArray.eraseIdxIfInBounds k=(its.eraseIdx k).toArray
  rw[List.eraseIdxIfInBounds_toArray]
 ·have:=zeq xs k
  omega
def rReverse:V→List V→Hp→VK→Prop:=fun x vs H Q=>∃ l xs,x=.ref l∧vs=[]∧H l=some (.lst xs)∧Q .non (upd H l (.lst xs.reverse))
theorem mt_reverse:MtM X "list.reverse" rReverse:=by
 intro pins s σ H x vs v us Q I rx rv h
 obtain⟨l,xs,rfl,rfl,hH,q⟩:=h
 cases rx
 have hus:=rv.zero
 subst hus
 obtain⟨z,its,n,r,hl,e⟩:=I.lstM hH
 refine call_meets F.slot_list_reverse ⟨_,e,rfl⟩ F.entry_list_reverse (F.args_list_reverse_1 _) (AutoSeq1.list_reverse_list_0 l its.toArray n (by rw[List.size_toArray];omega)) ⟨e,?_⟩
 refine⟨.non,_,I.lset (its':=its.reverse) hH e (by simp) r.reverse ?_,rfl,q⟩
 rw[List.length_reverse]
 omega
def rCat:R2:=fun x y H Q=>∃ l b xs zs,x=.ref l∧y=.ref b∧H l=some (.lst xs)∧H b=some (.lst zs)∧xs.length+zs.length≤sizeLine∧∀ p,H p=none→Q (.ref p) (upd H p (.lst (xs++zs)))
theorem op_cat:OpR X (binaryOp .Add) rCat:=by
 intro pins s σ H x y v u Q I rx ry h
 obtain⟨l,b,xs,zs,rfl,rfl,hH,hB,hz,q⟩:=h
 cases rx
 cases ry
 obtain⟨z,its,n,r,hl,e⟩:=I.lstM hH
 obtain⟨z2,its2,n2,r2,hl2,e2⟩:=I.lstM hB
 refine PySem.P.add_list e e2 ?_ (by rw[List.size_toArray,List.size_toArray];omega)
 have ea:its.toArray++its2.toArray=(its++its2).toArray:=by simp
 rw[ea]
 exact⟨.ref _,_,I.lnew (t':=s.toks) (r.append r2) (by rw[List.length_append];omega),rfl,q _ I.fresh⟩
end
section
variable {prog:Program}{w:World}{A:Around}{E:Value→Shared→Prop}{s:Shared}
set_option maxRecDepth 100000 in
end
section
variable {X:Cx}
end
end L2
namespace Att
open PySem PySem.W PySem.Calls PyProof.Rows
theorem zcJ {P:Params}{h:Heap}:∀ (ns:List Int) (vs:List Value),WellAll P h vs (ns.map WData.int)→IntsAre vs ns:=by
 intro ns
 induction ns with
 | nil=>
  intro vs w
  rw[List.map_nil] at w
  cases w
  exact .nil
 | cons n ns ih=>
  intro vs w
  rw[List.map_cons] at w
  cases w with
  | cons a b=>
   cases a
   exact .cons _ _ (ih _ b)
theorem script_of {l:OpenLaw}{n:Nat} (hn:l.most=some n){P:Params}{h:Heap}{args:List WData}{vals:List Value}
  (hpre:l.row.toRowW.claim.pre args=true) (hwl:WellAll P h vals args) :
  ∃ a vs ns,vals=[Value.ref a]∧args=[WData.list (ns.map WData.int)]∧h.get? a=some { cls:=.type "list",data:=.seq vs.toArray }∧IntsAre vs ns∧ns.length≤n:=by
 have hsh:WShape.hasAll [] args [.list .int]=true:=(pre_splitW hpre).1
 have hc:l.pre.holds [] { args:=args }=true:=(pre_splitW hpre).2
 obtain⟨d,r,rfl,h1,h2⟩:=hasAllW_cons hsh
 obtain rfl:=hasAllW_nil h2
 obtain⟨xs,rfl,h3⟩:=hasW_list h1
 obtain⟨ns,rfl⟩:=items_int h3
 have hlen:ns.length≤n:=by
  unfold OpenLaw.pre at hc
  have h4:(WTm.not (.lt (.lit (.int (n:Int))) (.len (.arg 0)))).holds [] { args:=[.list (ns.map .int)] }=true:=by
   have h4:=(holds_andW hc).1
   rw[hn] at h4
   exact h4
  have h5:=condW_of h4 (w_not (w_lt w_lit (w_len_list (w_arg rfl))))
  rw[List.length_map] at h5
  refine Nat.le_of_not_lt fun q=>?_
  have q':(n:Int)<((ns.length:Nat):Int):=by omega
  first
   | (rw[decide_eq_true q'] at h5;exact absurd h5 (by decide))
   | (simp at h5;omega)
 cases hwl with
 | cons w1 w2=>
  cases w2
  cases w1 with
  | list ho hall=>exact⟨_,_,ns,rfl,rfl,ho,zcJ ns _ hall,hlen⟩
theorem post_true (l:OpenLaw) (args:List WData):l.row.toRowW.claim.post args (.bool true) args=true:=
 postW_of (r:=l.row.toRowW) (X:=(true==true))
  (show WShape.has [] (.bool true) .bool=true by first | rfl | decide | simp [WShape.has,WShape.arms,WShape.armsAll])
  (show(WTm.eq .res (.lit (.bool true))).value [] { args:=args,res:=some (.bool true),after:=args }=some (.bool (true==true)) from w_eq_bool (w_res rfl) w_lit) rfl
theorem attach_call {l:OpenLaw}{n:Nat}{q:Program}{loose:List Str}{XP:(Str→Option Value)→Heap→Prop}{YP:World→Heap→Prop}{d:DefRec}
  (hn:l.most=some n) (hdf:d.params.defaults=[])
  (call:∀ (w:World) (s₀ s₁:Shared) (mg mb:Str→Option Value) (fa:Addr) (o:Obj) (pm cd doc:Value) (a:Addr) (vs:List Value) (ns:List Int),
   Ground q loose [] XP w s₀ mg mb s₁.heap→YP w s₁.heap →
   s₁.heap.get? fa=some o→o.data=.func (docDef d.name d.params d.body d.scope pm cd doc)→s₁.heap.CodeRec cd d.name→mg d.name=some (.ref fa) →
   s₁.heap.get? a=some { cls:=.type "list",data:=.seq vs.toArray }→IntsAre vs ns→ns.length≤n→s₁.gens=#[] →
   codeAny (model l.prog w) callerA (.call (.ref fa) ⟨[.ref a],[]⟩) (fun r s'=>r=.ok (.ret (.bool true))∧OldK s₁.heap s'.heap∧s'.os=s₁.os∧AllBare s'.gens) s₁) :
  WalkO q loose XP YP l.row.toRowW d [] (fun f vs=>PySem.call f vs):=by
 intro w s₀ s₁ mg mb G Y fa o pm cd doc dV kV ho hd hcd hD hmg hg args vals as hpre hlay hrd hwl hlo
 obtain rfl:dV=.none:=Dflts.none hD hdf
 obtain rfl:kV=.none:=Dflts.noKw hD
 obtain⟨a,vs,ns,rfl,rfl,hobj,hints,hlen⟩:=script_of hn hpre hwl
 refine enter_call (codeAny_mono (call w s₀ s₁ mg mb fa o pm cd doc a vs ns G Y ho (fd_plain hd) hcd hmg hobj hints hlen hg) fun r s' hq=>?_)
 obtain⟨rfl,h2,h3,h4⟩:=hq
 exact⟨.inl ⟨.bool true,.bool true,[],rfl,fun _=>rfl,.bool true,post_true l _,fun _=>⟨List.Pairwise.nil,fun _ hm=>(nomatch hm)⟩⟩,h2,h3,h4⟩
section
variable {prog:Program}{w:World}{A:Around}{E:Value→Shared→Prop}{s:Shared}{K:Frag}
end
end Att
namespace L2
open PySem PySem.Spec PyProof.Rows
theorem zea:∀ {vs:List Value}{ns:List Int},IntsAre vs ns→Vals (ns.map V.int) vs
 | _,_,.nil=>.nil
 | _,_,.cons n t h=>.cons ⟨t,rfl⟩ (zea h)
def Only (H:Hp):Prop:=∀ b,H b=none∨∃ o xs,H b=some (.frz o (.lst xs))
theorem law_call {P:Program}{w:World}{K:PySem.W.Frag}{mg mb:Str→Option Value}{CX:CXT}{k:Nat}{fa a:Addr}{fd:FuncData}{x:Str}{sp:Sp}{s₁:Shared}{vs:List Value}{ns:List Int}
  (KX:K.In s₁.heap) (hns:s₁.heap.Ns mainGlobals mg) (hb:s₁.heap.Ns builtinsNs mb) (hbb:∀ x:Str,x≠"__name__"→mb x=bootBuiltins x) (hlim:s₁.heap.NoLimit) (hg:s₁.gens=#[])
  (ha:s₁.heap.get? a=some { cls:=.type "list",data:=.seq vs.toArray }) (hi:IntsAre vs ns) (hl:ns.length≤sizeLine) (hr:Room k callerA)
  (F:∀ base:Heap,K.In base→base.Ns mainGlobals mg→FnOk P w K mg base CX k fa fd [x] sp) (hbind:∀ (s:Shared) (u:Value),BindsTo s fd ⟨[u],[]⟩ [(x,u)])
  (hsp:∀ H:Hp,Only H→SqL K H a (ns.map V.int)→sp [.ref a] H (fun v _=>v=.bl true) fun _ _ _=>False)
  (hCX:∀ H e s',CX [] H s₁ (fun _ _ _=>False) e s'→False) :
  codeAny (model P w) callerA (.call (.ref fa) ⟨[.ref a],[]⟩) (fun r s'=>r=.ok (.ret (.bool true))∧OldK s₁.heap s'.heap∧s'.os=s₁.os∧AllBare s'.gens) s₁:=by
 have rv:=zea hi
 have lenV:=hi.length
 -- from an abstract heap in which nothing but the script may be tracked
 have core:∀ H:Hp,Only H→SqL K H a (ns.map V.int)→HOk P w H s₁.heap→(∀ b,H b≠none→b=a)→(H a≠none→K.lookup a=none) →
   codeAny (model P w) callerA (.call (.ref fa) ⟨[.ref a],[]⟩) (fun r s'=>r=.ok (.ret (.bool true))∧OldK s₁.heap s'.heap∧s'.os=s₁.os∧AllBare s'.gens) s₁:=by
  intro H hO hS hok hA hK
  have base_of:∀ {b:Addr}{o:Obj},s₁.heap.get? b=some o→H b=none→(hidT s₁.heap H).get? b=some o:=fun e n=>hidT_get e n
  have noA:∀ {b:Addr}{o:Obj}{es:Array DictEntry}{ep:Nat},s₁.heap.get? b=some o→o.data=.dict es ep→H b=none:=fun {b o es ep} e d=>by
   cases q:H b with
   | none=>rfl
   | some u=>
    have e':b=a:=hA b (by rw[q];simp)
    subst e'
    rw[ha] at e;cases e
    have d':Data.seq vs.toArray _=Data.dict es ep:=d
    cases d'
  have nsK:∀ {b:Addr}{m:Str→Option Value},s₁.heap.Ns b m→(hidT s₁.heap H).Ns b m:=fun {b m} ⟨o,es,ep,e,d,r⟩=>⟨o,es,ep,base_of e (noA e d),d,r⟩
  have hKb:K.In (hidT s₁.heap H):=fun b o e=>base_of (KX b o e) (by
   cases q:H b with
   | none=>rfl
   | some u=>
    have e':b=a:=hA b (by rw[q];simp)
    subst e'
    rw[hK (by rw[q];simp)] at e;cases e)
  have hM:Mod K mg (hidT s₁.heap H):=⟨hKb,nsK hns,⟨mb,nsK hb,hbb⟩,let ⟨mc,h1,h2⟩:=hlim;⟨mc,nsK h1,h2⟩⟩
  have e0:Env0 P w K mg (hidT s₁.heap H) callerA [] s₁ H:=⟨rfl,hM,fun b o e=>of_hidT e,Nat.le_of_eq (hidT_size _ _),trivial,fun b hb=>absurd (show b∈([]:List Addr) from hb) (by simp),hok,.of_eq hg⟩
  refine codeAny_mono ((F _ hKb (nsK hns)).run callerA [] s₁ H ⟨[.ref a],[]⟩ [.ref a] [.ref a] _ _ hr e0 (hbind s₁ (.ref a)) (.cons rfl .nil) (hsp H hO hS)) fun r s' h=>?_
  cases r with
  | error e=>exact(hCX H e s' h).elim
  | ok fl=>
   cases fl with
   | next=>exact False.elim h
   | brk=>exact False.elim h
   | cont=>exact False.elim h
   | ret u=>
    obtain⟨v,H',os,bare,un,hok',r',q⟩:=h
    have q':v=.bl true:=q
    subst q'
    obtain rfl:u=Value.bool true:=r'
    refine⟨rfl,OldK.of_keep fun b o e=>?_,os,bare⟩
    cases q:H b with
    | none=>exact un.keep b o e q (by intro z;exact absurd (show b∈([]:List Addr) from z) (by simp)) (by simp)
    | some u=>
     rcases hO b with z | ⟨ob,xs,z⟩
     ·rw[q] at z;cases z
     ·have z2:=un.frzs b ob _ z
      obtain⟨e1,_⟩:=hok b _ z
      obtain⟨e2,_⟩:=hok' b _ z2
      rw[e] at e1;cases e1
      exact e2
 cases hk:K.lookup a with
 | some o=>
  -- the script is one of the module's own objects
  have e:=KX a o hk
  rw[ha] at e
  cases e
  refine core (fun _=>none) (fun _=>.inl rfl) (.inr ⟨_,vs.toArray,_,hk,rfl,rfl,rfl,by rw[List.size_toArray,lenV];exact hl,by simpa using rv⟩) (fun b u z=>by have z':(none:Option HO)=some u:=z;cases z') (fun b z=>absurd rfl z) fun z=>absurd rfl z
 | none=>
  refine core (fun b=>if b=a then some (.frz { cls:=.type "list",data:=.seq vs.toArray } (.lst (ns.map V.int))) else none) (fun b=>?_) (.inl (.inr ⟨{ cls:=.type "list",data:=.seq vs.toArray },if_pos rfl⟩)) (fun b u z=>?_) (fun b z=>?_) fun _=>hk
  ·by_cases hb:b=a
   ·exact .inr ⟨_,_,if_pos hb⟩
   ·exact .inl (if_neg hb)
  ·by_cases hb:b=a
   ·have z':=(if_pos hb).symm.trans z
    cases z'
    subst hb
    exact⟨ha,by rw[List.length_map];exact hl,vs,_,rv,ha⟩
   ·have z':=(if_neg hb).symm.trans z
    cases z'
  ·by_cases hb:b=a
   ·exact hb
   ·exact absurd (if_neg hb) z
end L2
namespace L2
open PySem PySem.Spec PyProof.Rows
theorem walk_of {l:PySem.W.OpenLaw}{n k:Nat}{q:Program}{loose:List Str}{XP:(Str→Option Value)→Heap→Prop}{YP:World→Heap→Prop}{d:DefRec}{K:Params→PySem.W.Frag}{CX:World→CXT}{sp:World→Sp}{x:Str}
  (hn:l.most=some n) (hn2:n≤sizeLine) (hdf:d.params.defaults=[]) (hr:Room k callerA)
  (hY:∀ (w:World) (h:Heap),YP w h→(K w.params).In h)
  (F:∀ (w:World) (mg:Str→Option Value) (fa:Addr) (h:Heap),(K w.params).In h→h.Ns mainGlobals mg→mg d.name=some (.ref fa) →
   ∃ fd:FuncData,(∀ (s:Shared) (u:Value),BindsTo s fd ⟨[u],[]⟩ [(x,u)]) ∧
    ∀ base:Heap,(K w.params).In base→base.Ns mainGlobals mg→FnOk l.prog w (K w.params) mg base (CX w) k fa fd [x] (sp w))
  (hsp:∀ (w:World) (H:Hp) (a:Addr) (ns:List Int),ns.length≤n→Only H→SqL (K w.params) H a (ns.map V.int)→sp w [.ref a] H (fun v _=>v=.bl true) fun _ _ _=>False)
  (hCX:∀ (w:World) (H:Hp) (s:Shared) (e:Value) (s':Shared),CX w [] H s (fun _ _ _=>False) e s'→False) :
  PySem.W.WalkO q loose XP YP l.row.toRowW d [] (fun f vs=>PySem.call f vs):=by
 refine Att.attach_call hn hdf fun w s₀ s₁ mg mb fa o pm cd doc a vs ns G Y ho hd hcd hmg hobj hints hlen hg=>?_
 have KX:=hY w _ Y
 obtain⟨fd,hb,hF⟩:=F w mg fa _ KX G.T.g hmg
 exact law_call KX G.T.g G.T.b G.T.builtins G.T.nolimit hg hobj hints (Nat.le_trans hlen hn2) hr hF hb (fun H hO hS=>hsp w H a ns hlen hO hS) fun H e s'=>hCX w H s₁ e s'
end L2
namespace L2
open PySem PySem.Spec PyProof.Rows
def inClass (s:Stmt) (j:Nat):Stmt:=match s with
 | .ClassDef _ _ _ body _ _ _ _ _ _ _=>body.getD j (.Pass ⟨0,0,0,0⟩)
 | _=>.Pass ⟨0,0,0,0⟩
def defArgs (s:Stmt):Arguments:=match s with
 | .FunctionDef _ a _ _ _ _ _ _ _ _=>a
 | _=>{ posonlyargs:=[],args:=[],vararg:=none,kwonlyargs:=[],kw_defaults:=[],kwarg:=none,defaults:=[] }
def defBody (s:Stmt):List Stmt:=match s with
 | .FunctionDef _ _ b _ _ _ _ _ _ _=>b
 | _=>[]
def defScope (s:Stmt):Scope:=match s with
 | .FunctionDef _ _ _ _ _ _ sc _ _ _=>sc
 | _=>{ kind:=.function,names:=[],isGenerator:=false,isCoroutine:=false }
abbrev CX0:CXT:=fun _ _ _ _ _ _=>False
abbrev E0:XK:=fun _ _ _=>False
theorem zbO {X:Cx}:Passes CX0 X E0:=fun _ _ _ _ _ _ _ h=>h.elim
structure Fun (K:PySem.W.Frag) (x qual:Str) (st:Stmt) (f:Addr) (fd:FuncData):Prop where
 ex:∃ (oc:Value) (od:Option Addr) (kV doc pm:Value) (an:Option Addr) (cdv ct:Value) (osl:Array (Option Value)),
  fd=PySem.W.fnOf x qual (defArgs st) (defBody st) (defScope st) .none kV doc pm an cdv ct∧K.lookup f=some ⟨oc,od,.func fd,osl⟩∧PySem.W.codeIn K cdv qual=true
 kp:PySem.W.keepIn K (.ref f)=true
section
variable {P:Program}{w:World}{K:PySem.W.Frag}{mg:Str→Option Value}{base:Heap}
theorem Fun.ok {x qual:Str}{st:Stmt}{f:Addr}{fd:FuncData}{N ps:List Str}{k:Nat}{sp:Sp} (F:Fun K x qual st f fd) (S:FnScope N ps (defScope st)) (len:∀ vs H Q E,sp vs H Q E→vs.length=ps.length)
  (hbody:∀ (cdv:Value) (A:Around) (outer:List Env) (s:Shared) (H:Hp) (vs:List V) (Q:VK) (E:XK),Room k (A.deeper (envOfC qual (defScope st) s.heap.objs.size f cdv))→sp vs H Q E →
   ∃ t,PSs (cxOf CX0 P w K mg base N qual (defScope st) f cdv A outer s H E).nox (defBody st) t∧t { nx:=fun _ H'=>Q .non H',rt:=Q } (start N vs) H):FnOk P w K mg base CX0 (k+1) f fd ps sp:=by
 obtain⟨oc,od,kV,doc,pm,an,cdv,ct,osl,rfl,lk,hcd⟩:=F.ex
 refine fn_of lk hcd S len fun A outer s H vs Q E hr hsp=>?_
 obtain⟨t,h,q⟩:=hbody cdv A outer s H vs Q E hr hsp
 exact⟨t,h.nox,q⟩
theorem Fun.binds {x qual:Str}{st:Stmt}{f:Addr}{fd:FuncData}{ps:List Str} (F:Fun K x qual st f fd)
  (h:∀ (kV doc pm:Value) (an:Option Addr) (cdv ct:Value) (us:List Value),us.length=ps.length→bindArgs (PySem.W.fnOf x qual (defArgs st) (defBody st) (defScope st) .none kV doc pm an cdv ct) ⟨us,[]⟩=pure (ps.zip us)):Binds K fd ps []:=by
 obtain⟨oc,od,kV,doc,pm,an,cdv,ct,osl,rfl,lk,hcd⟩:=F.ex
 exact .all (h kV doc pm an cdv ct)
theorem fun_mk {x qual:Str}{st:Stmt}{f:Addr}{oc:Value}{od an:Option Addr}{osl:Array (Option Value)}{kV doc pm cdv ct:Value} (l:K.lookup f=some ⟨oc,od,.func (PySem.W.fnOf x qual (defArgs st) (defBody st) (defScope st) .none kV doc pm an cdv ct),osl⟩)
  (c:PySem.W.codeIn K cdv qual=true) (k:PySem.W.keepIn K (.ref f)=true):Fun K x qual st f (PySem.W.fnOf x qual (defArgs st) (defBody st) (defScope st) .none kV doc pm an cdv ct):=⟨⟨oc,od,kV,doc,pm,an,cdv,ct,osl,rfl,l,c⟩,k⟩
end
theorem zfh {A:Around}{k:Nat} (hr:Room k A):A.units+1<cLine:=Nat.lt_of_le_of_lt (Nat.add_le_add_left (by decide:1≤64) _) hr.units
theorem zbe {n:Nat} (h:n≤1000):n<sizeLine:=Nat.lt_of_le_of_lt h (by decide)
section
variable {X:Cx}
theorem pv (i:Nat){x:Str}{pos:Pos} (hN:X.N[i]?=some x:=by rfl) (hv:Vis X.env.scope x:=by first | exact Or.inl rfl | exact Or.inr (Or.inl rfl) | exact Or.inr (Or.inr rfl)) (hd:(x==("__debug__":Str))=false:=by decide)
  (hcd:(x==("__classdict__":Str))=false:=by decide):PE X (.Name x pos) (tVar i):=zat hN hv hd hcd
end
theorem iteF {A B:Prop} (h:B):if false=true then A else B:=by
 rw[if_neg Bool.false_ne_true]
 exact h
theorem iteT {A B:Prop} (h:A):if true=true then A else B:=by
 rw[if_pos rfl]
 exact h
theorem ite2 {c A B:Prop} [Decidable c] (h1:c→A) (h2:¬ c→B):if c then A else B:=by
 by_cases h:c
 ·rw[if_pos h]
  exact h1 h
 ·rw[if_neg h]
  exact h2 h
def Same (H H':Hp):Prop:=∀ b o,H b=some o→H' b=some o
theorem Same.refl (H:Hp):Same H H:=fun _ _ h=>h
theorem Same.trans {H H1 H2:Hp} (a:Same H H1) (b:Same H1 H2):Same H H2:=fun c o h=>b c o (a c o h)
section
variable {κ:Type} [DecidableEq κ]
theorem valV_in {kvs:List (κ×V)}{k:κ}{v:V} (h:valV kvs k=some v):k∈kvs.map (·.1):=by
 have q:(kvs.any fun kv=>decide (kv.1=k))=true:=by
  rw[zbK,h]
  all_goals rfl
 obtain⟨p,hp,e⟩:=List.any_eq_true.mp q
 exact List.mem_map.mpr ⟨p,hp,of_decide_eq_true e⟩
end
end L2
set_option maxHeartbeats 4000000
namespace L2
open PySem PySem.Spec PyProof.Rows
def subSt (k:Nat) (ix:List Nat) (σ:St):St:=List.replicate k none++ix.map fun j=>(σ[j]?).join
def cxComp (X:Cx) (N:List Str) (sc:Scope) (cl:List (Str×Addr)) (C:Addr) (fp:List Addr) (s:Shared) (H:Hp):Cx:=
 { X with N:=N,s₀:=s,H₀:=H,env:=compEnvC sc cl C X.env,outer:=X.stack,ex:=fp,fn:=fun _=>false,xe:=fun _ _=>False }
structure CompScope (X:Cx) (sc:Scope) (cl:List (Str×Addr)) (N:List Str) (k:Nat) (ix:List Nat):Prop where
 clos:closureFor sc X.env=pure cl
 kind:sc.kind=.function
 nocell:∀ y∈sc.names,y.2≠.cell
 names:∀ y∈sc.names,y.2=.local→sc.names.lookup y.1=some .local
 sub:∀ x c,cl.lookup x=some c→X.env.cells.lookup x=some c
 has:∀ x,((relabel sc X.env).names.lookup x=some .cell∨(relabel sc X.env).names.lookup x=some .free)→∃ c,cl.lookup x=some c
 len:N.length=k+ix.length
 caught:∀ i j x,ix[i]?=some j→N[k+i]?=some x→X.N[j]?=some x∧(X.env.kindOf x=some .cell∨X.env.kindOf x=some .free) ∧
  ((relabel sc X.env).names.lookup x=some .cell∨(relabel sc X.env).names.lookup x=some .free)
section
variable {X:Cx}{pins:List (Addr×Obj)}{σ:St}{H:Hp}{s:Shared}{sc:Scope}{cl:List (Str×Addr)}{N:List Str}{k:Nat}{ix:List Nat}{C:Addr}{fp:List Addr}
theorem cxComp_ok (S:CompScope X sc cl N k ix) (I:Inv X pins σ H s) (hC:C=s.heap.objs.size) (hf:∀ b∈fp,FpOk X pins H b∧b<s.heap.objs.size):(cxComp X N sc cl C fp s H).Ok where
 mod:=I.ok.mod
 kind:=S.kind
 glob:=I.ok.glob
 blt:=I.ok.blt
 above:=by subst hC;exact Nat.le_refl _
 inj:=fun x y c h1 h2=>I.ok.inj x y c (S.sub x c h1) (S.sub y c h2)
 has:=S.has
 cab:=fun _ _ h=>by cases h
 hd:=I.ok.hd
 frames:=I.ok.frames
 stk:=.inl rfl
 exf:=fun b hb=>⟨by subst hC;exact Nat.ne_of_lt (hf b hb).2,fun x c e=>(hf b hb).1.2.2.2.2.1 x c (S.sub x c e)⟩
 bs:=I.bs
 bsz:=Nat.le_trans I.ok.bsz I.sz
 noex:=fun b o e hb=>by
  obtain⟨_,_,_,h1,_⟩:=(hf b hb).1
  rcases h1 with z | z
  ·exact I.ok.noex b o e z
  ·exact absurd (Nat.lt_of_lt_of_le (Heap.lt_size e) (Nat.le_trans I.ok.bsz z)) (Nat.lt_irrefl _)
 exfs:=fun b hb hz=>by
  obtain⟨_,h1,h2,_⟩:=(hf b hb).1
  exact(List.mem_cons.mp (I.stkSub b hz)).elim h1 h2
 funs:=I.stack
 frf:=I.stkFree
theorem subSt_get {i:Nat}{v:V} (h:(subSt k ix σ)[i]?=some (some v)):∃ i' j,i=k+i'∧ix[i']?=some j∧σ[j]?=some (some v):=by
 unfold subSt at h
 by_cases hi:i<k
 ·rw[List.getElem?_append_left (by simpa using hi),List.getElem?_replicate,if_pos hi] at h
  cases h
 ·rw[List.getElem?_append_right (by simpa using (Nat.le_of_not_lt hi)),List.length_replicate,List.getElem?_map] at h
  cases e:ix[i-k]? with
  | none=>rw[e] at h;cases h
  | some j=>
   rw[e] at h
   have h2:(σ[j]?).join=some v:=Option.some.inj h
   refine⟨i-k,j,by omega,e,?_⟩
   cases e2:σ[j]? with
   | none=>rw[e2] at h2;cases h2
   | some o=>rw[e2] at h2;exact congrArg some h2
theorem zeE {h₁:Heap}{tk:Nat}{m:Str→Option Value} (S:CompScope X sc cl N k ix) (I:Inv X pins σ H s) (hC:C=s.heap.objs.size) (hf:∀ b∈fp,FpOk X pins H b∧b<s.heap.objs.size)
  (hn:h₁.Ns C m) (kp:∀ b o,s.heap.get? b=some o→h₁.get? b=some o):Inv (cxComp X N sc cl C fp s H) pins (subSt k ix σ) H { s with heap:=h₁,toks:=tk } where
 ok:=cxComp_ok S I hC hf
 os:=rfl
 bare:=I.bare
 base:=Un.kept kp
 loc:=by
  refine⟨m,hn,fun i x v e1 e2 _=>?_⟩
  obtain⟨i',j,rfl,e3,e4⟩:=subSt_get e2
  obtain⟨n1,k1,k2⟩:=S.caught i' j x e3 e1
  obtain⟨mX,_,hl⟩:=I.loc
  have vis:Vis X.env.scope x:=by
   rcases k1 with z | z
   ·exact .inr (.inl z)
   ·exact .inr (.inr z)
  obtain⟨u,r,l⟩:=hl j x v n1 e4 vis
  refine⟨u,r,.inr ⟨k2,?_⟩⟩
  rcases l with ⟨z,_⟩ | ⟨_,c,z,o,ho,hd⟩
  ·rcases k1 with y | y
   ·rw[y] at z;cases z
   ·rw[y] at z;cases z
  ·obtain⟨c',hc'⟩:=S.has x k2
   have q:=S.sub x c' hc'
   rw[z] at q
   cases q
   exact⟨c,hc',o,kp _ _ ho,hd⟩
 cell:=fun x c e=>by
  obtain⟨v,o,ho,hd⟩:=I.cell x c (S.sub x c e)
  exact⟨v,o,kp _ _ ho,hd⟩
 free:=by
  show H C=none
  rw[hC]
  exact I.hok.fresh (Nat.le_refl _)
 freeC:=fun x c e=>I.freeC x c (S.sub x c e)
 pin:=fun p hp=>by
  obtain⟨e,n,ne,nf,d⟩:=I.pin p hp
  refine⟨kp _ _ e,n,?_,fun hz=>(List.mem_cons.mp (I.stkSub _ hz)).elim ne nf,d⟩
  show p.1≠C
  rw[hC]
  exact Nat.ne_of_lt (Heap.lt_size e)
 hok:=I.hok.kept kp
 len:=by
  show(subSt k ix σ).length=N.length
  unfold subSt
  rw[S.len,List.length_append,List.length_replicate,List.length_map]
theorem zfm {C':Addr}{σ':St}{H':Hp}{s':Shared} (I:Inv X pins σ H s) (hf:∀ b∈fp,FpOk X pins H b) (J:Inv (cxComp X N sc cl C' fp s H) pins σ' H' s'):Inv X pins σ H' s':=
 I.call' J.os J.base J.hok J.bare fun b hb=>⟨(hf b hb).2.2.2.1,(hf b hb).2.1,(hf b hb).2.2.2.2.1,(hf b hb).2.2.2.2.2⟩
end
def PIf (X:Cx) (ifs:List Expr) (t:TT):Prop:=
 ∀ (pins:List (Addr×Obj)) (s:Shared) (σ:St) (H:Hp) (Q:Bool→Hp→Prop),Inv X pins σ H s→t σ H Q →
  wpAny (model X.prog X.w) X.A (forIn ifs true fun c r=>if r=true then do let ok ← isTrue c X.env (eval c X.env);pure (ForInStep.yield ok) else pure (ForInStep.yield r)) (TP X pins σ Q) X.xe s
def tYes:TT:=fun _ H Q=>Q true H
theorem pf_nil {X:Cx}:PIf X [] tYes:=fun _ _ _ H _ I h=>wpAny_tests_nil ⟨H,I,h⟩
theorem pf_one {X:Cx}{c:Expr}{t:TT} (h:PT X c t):PIf X [c] t:=fun pins s σ H Q I q=>wpAny_tests_one (h pins s σ H Q I q)
def bComp (J:It) (g:TG) (tI:TT) (te:TE) (acc:Addr) (Q:VK) (σ:St) (H:Hp):Prop:=
 ∃ W:Nat→Nat→St→Hp→Prop,(∃ m,W 0 m σ H)∧∀ i m σ' H',W i m σ' H' →
  (J.stop i H'∧Q (.ref acc) H')∨(J.go i H'∧∃ N:St→Hp→Prop,(∀ σ2 H2,N σ2 H2→∃ m',m'<m∧W (i+1) m' σ2 H2) ∧
   ∀ x H2,J.yld i H' x H2→g x σ' H2 fun σ3 H3=>tI σ3 H3 fun b H4=>if b=true then te σ3 H4 fun y H5=>∃ ys,H5 acc=some (.lst ys)∧ys.length<sizeLine∧N σ3 (upd H5 acc (.lst (ys++[y]))) else N σ3 H4)
section
variable {X:Cx}{elt tg iter:Expr}{ifs:List Expr}{pos:Pos}{sc:Scope}{cl:List (Str×Addr)}{N:List Str}{k:Nat}{ix:List Nat}{g:TG}{tI:TT}{te:TE}{wi:TI}
theorem comp_block {pins:List (Addr×Obj)}{σ:St}{H:Hp}{s2:Shared}{it:Addr}{fp:List Addr}{tn:Nat→Heap→Prop}{J:It}{Q:VK}{E:Value→Shared→Prop}{RR:Value→Addr→Result→Shared→Prop}
  (S:CompScope X sc cl N k ix) (hc:X.calm=true) (hg:∀ C fp s H,PG (cxComp X N sc cl C fp s H) tg g) (hi:∀ C fp s H,PIf (cxComp X N sc cl C fp s H) ifs tI) (he:∀ C fp s H,PE (cxComp X N sc cl C fp s H) elt te)
  (I:Inv X pins σ H s2) (T:Turn X.prog X.w X.K tg J fp it tn) (st:tn 0 s2.heap) (ff:∀ b∈fp,FpOk X pins H b)
  (q:∀ acc,H acc=none→bComp J g tI te acc Q (subSt k ix σ) (upd H acc (.lst [])))
  (hRR:∀ (acc C:Addr) (H':Hp) (s':Shared),Inv X pins σ H' s'→FpOk X pins H' C→(∃ m,s'.heap.Ns C m)→Q (.ref acc) H'→RR (.ref acc) C (.ok .next) s') :
  wpAny (model X.prog X.w) X.A (newList []) (fun acc s₃=>wpAny (model X.prog X.w) X.A (newFunctionEnv sc X.env.globals cl [] X.env.qual none .none (some X.env)) (fun cenv s₄=>
   codeAny (model X.prog X.w) X.A (.compStart (.ListComp elt [⟨tg,iter,ifs,0⟩] sc pos) 0 (.ref it) acc { cenv with scope:=relabel sc X.env }) (RR acc cenv.locals) s₄) E s₃) E s2:=by
 refine wpAny_newObj_type (wpAny_newFunctionEnv S.nocell (fun y hy=>nomatch hy) (fun h₁ hns₁ hsb₁=>?_) S.kind)
 dsimp only at hns₁ hsb₁ ⊢
 have I3:Inv X pins σ (upd H s2.heap.objs.size (.lst [])) { s2 with heap:=s2.heap.push { cls:=.type "list",data:=.seq ([]:List Value).toArray },toks:=s2.toks }:=I.lnew (ys:=[]) (its:=[]) .nil (by decide)
 have hfree:H s2.heap.objs.size=none:=I.hok.fresh (Nat.le_refl _)
 have hlt:∀ b∈fp,b<s2.heap.objs.size:=fun b hb=>by
  obtain⟨o,e,_⟩:=T.obj 0 _ st b hb
  exact Heap.lt_size e
 have hsz:(s2.heap.push { cls:=.type "list",data:=.seq ([]:List Value).toArray }).objs.size=s2.heap.objs.size+1:=Heap.size_push ..
 have ff3:∀ b∈fp,FpOk X pins (upd H s2.heap.objs.size (.lst [])) b:=fun b hb=>by
  obtain⟨f0,f1,f2,f3,f4,f5⟩:=ff b hb
  exact⟨by rw[zac (Nat.ne_of_lt (hlt b hb))];exact f0,f1,f2,f3,f4,f5⟩
 obtain⟨W,⟨m0,w0⟩,turn⟩:=q _ hfree
 have kp:∀ b o,(s2.heap.push { cls:=.type "list",data:=.seq ([]:List Value).toArray }).get? b=some o→h₁.get? b=some o:=fun b o e=>
  hsb₁.extBut b o (Nat.ne_of_lt (Heap.lt_size e)) (Heap.get?_push_of_some _ e)
 have I4:=zeE (h₁:=h₁) (tk:=s2.toks+([]:List (Str×Value)).length) (fp:=fp) S I3 rfl (fun b hb=>⟨ff3 b hb,by
  show b<(s2.heap.push _).objs.size
  rw[hsz]
  exact Nat.lt_succ_of_lt (hlt b hb)⟩) hns₁ kp
 have st4:tn 0 h₁:=T.keep 0 _ _ st fun b _ o e=>kp b o (Heap.get?_push_of_some _ e)
 generalize hC:(s2.heap.push { cls:=.type "list",data:=.seq ([]:List Value).toArray }).objs.size=C at *
 generalize hX:cxComp X N sc cl C fp { s2 with heap:=s2.heap.push { cls:=.type "list",data:=.seq ([]:List Value).toArray },toks:=s2.toks } (upd H s2.heap.objs.size (.lst []))=Y at I4
 have loop:∀ s':Shared,s'={ s2 with heap:=h₁,toks:=s2.toks+([]:List (Str×Value)).length } →
   codeAny (model X.prog X.w) X.A (.compLoop (.ListComp elt [⟨tg,iter,ifs,0⟩] sc pos) 0 (.ref it) (.ref s2.heap.objs.size) (compEnvC sc cl C X.env)) (RR (.ref s2.heap.objs.size) C) s':=by
  rintro s' rfl
  refine codeAny_loop rfl (fun n s'=>∃ i σ' H',Inv Y pins σ' H' s'∧tn i s'.heap∧(∀ b∈fp,H' b=none)∧W i n σ' H') (fun n s3 hI=>?_) m0 ⟨0,_,_,I4,st4,fun b hb=>(ff3 b hb).1,w0⟩
  obtain⟨i,σ3,H3,J3,st3,fr3,w3⟩:=hI
  show wpAny _ _ ((compTurn (.ListComp elt [⟨tg,iter,ifs,0⟩] sc pos) 0 (.ref it) (.ref s2.heap.objs.size) (compEnvC sc cl C X.env)).onRaise (fun x=>do noteFrame x (compEnvC sc cl C X.env);theTreesLotGoes x)) _ _ s3
  refine wpAny_noted ?_
  rw[compTurn_list]
  have stat:∀ {H':Hp},(∀ b∈fp,H' b=none)→∀ b∈fp,FpOk Y pins H' b:=fun hn b hb=>by
   obtain⟨f0,f1,f2,f3,f4,f5⟩:=ff3 b hb
   subst hX
   refine⟨hn b hb,?_,fun hz=>(List.mem_cons.mp (I3.stkSub b hz)).elim f1 f2,.inl hb,fun x c e=>f4 x c (S.sub x c e),f5⟩
   show b≠C
   rw[hsz]
   exact Nat.ne_of_lt (Nat.lt_succ_of_lt (hlt b hb))
  have eX:Y.prog=X.prog∧Y.w=X.w∧Y.K=X.K∧Y.calm=X.calm∧Y.A=X.A∧Y.env=compEnvC sc cl C X.env∧Y.xe=fun _ _=>False:=by
   subst hX
   exact⟨rfl,rfl,rfl,rfl,rfl,rfl,rfl⟩
  obtain⟨y1,y2,y3,y4,y5,y6,y7⟩:=eX
  have hgY:PG Y tg g:=hX▸hg _ _ _ _
  have hiY:PIf Y ifs tI:=hX▸hi _ _ _ _
  have heY:PE Y elt te:=hX▸he _ _ _ _
  have no:∀ {α:Type}{m:Sem α}{P:α→Shared→Prop}{E':Value→Shared→Prop}{s':Shared},wpAny (model Y.prog Y.w) Y.A m P Y.xe s'→wpAny (model X.prog X.w) X.A m P E' s':=fun {α m P E' s'} h=>by
   rw[y1,y2,y5,y7] at h
   exact wpAny_mono h (fun _ _ z=>z) fun _ _ z=>z.elim
  rcases turn i n σ3 H3 w3 with ⟨stop,qn⟩ | ⟨go,Nx,hN,step⟩
  ·refine wpAny_bind (wpAny_standAt (wpAny_bind (wpAny_mono (no (T.done Y y1 y2 y3 (y4.trans hc) i pins s3 σ3 H3 Y.xe J3 (stat fr3) st3 stop |> fun z=>by rw[y1,y2] at *;exact z)) (fun r s4 hr=>?_) fun _ _ z=>z)))
   obtain⟨hr,J4⟩:=hr
   subst hr
   refine wpAny_pure ?_
   subst hX
   have J5:=zfm I3 ff3 J4
   obtain⟨m,hn,_⟩:=J4.loc
   exact hRR _ _ _ _ J5 (I3.fpOk (Nat.le_of_eq hC) J4.free) ⟨m,hn⟩ qn
  ·refine wpAny_bind (wpAny_standAt (wpAny_bind (wpAny_mono (no (T.item Y y1 y2 y3 (y4.trans hc) i pins s3 σ3 H3 Y.xe J3 (stat fr3) st3 go |> fun z=>by rw[y1,y2] at *;exact z)) (fun r s4 hr=>?_) fun _ _ z=>z)))
   obtain⟨u,hr,h4⟩:=hr
   subst hr
   refine wpAny_bind (wpAny_mono (no (by rw[y1,y2];exact h4)) (fun _ s5 h5=>?_) fun _ _ z=>z)
   obtain⟨x,H5,J5,r5,yl5,st5,fr5⟩:=h5
   have J5':=J5.pinned (stat fr5) (T.obj _ _ st5)
   refine wpAny_bind (wpAny_mono (no (y6▸hgY _ s5 σ3 H5 x u _ J5' r5 (step x H5 yl5))) (fun _ s6 h6=>?_) fun _ _ z=>z)
   obtain⟨σ6,H6,J6,q6⟩:=h6
   refine wpAny_bind (wpAny_mono (no (y6▸hiY _ s6 σ6 H6 _ J6 q6)) (fun ok s7 h7=>?_) fun _ _ z=>z)
   obtain⟨H7,J7,q7⟩:=h7
   have again:∀ {s8:Shared}{H8:Hp},Inv Y (pins++pinsAt fp s5.heap) σ6 H8 s8→Nx σ6 H8→∃ m,m<n∧∃ i σ' H',Inv Y pins σ' H' s8∧tn i s8.heap∧(∀ b∈fp,H' b=none)∧W i m σ' H':=fun {s8 H8} J8 n8=>by
    obtain⟨m',hm,w8⟩:=hN σ6 H8 n8
    refine⟨m',hm,i+1,σ6,H8,J8.unpinned,T.keep _ _ _ st5 fun b hb o e=>(J8.pin (b,o) (List.mem_append_right _ (List.mem_append_right _ (zbp hb e)))).1,fun b hb=>?_,w8⟩
    obtain⟨o,e,d⟩:=T.obj _ _ st5 b hb
    exact(J8.pin (b,o) (List.mem_append_right _ (List.mem_append_right _ (zbp hb e)))).2.1
   cases ok with
   | false=>exact wpAny_pure ⟨rfl,again J7 q7⟩
   | true=>
    refine wpAny_bind (wpAny_bind (wpAny_mono (no (y6▸heY _ s7 σ6 H7 _ J7 q7)) (fun v s8 h8=>?_) fun _ _ z=>z))
    obtain⟨y,H8,J8,r8,ys,ha,hl,n8⟩:=h8
    refine wpAny_bind (wpAny_mono (no (zep (X:=Y) _ s8 σ6 H8 (.ref s2.heap.objs.size) [y] (.ref s2.heap.objs.size) [v] (fun _ H9=>Nx σ6 H9) J8 rfl (.cons r8 .nil) ⟨_,ys,y,rfl,rfl,ha,hl,n8⟩)) (fun _ s9 h9=>?_) fun _ _ z=>z)
    obtain⟨_,H9,J9,_,n9⟩:=h9
    exact wpAny_pure (wpAny_pure ⟨rfl,again J9 n9⟩)
 exact codeAny_compStart_list (loop _ rfl) (T.self _ 0 _ _ _ st4 (loop _ rfl))
def tComp (k:Nat) (ix:List Nat) (wi:TI) (g:TG) (tI:TT) (te:TE):TE:=fun σ H Q=>wi σ H fun J H1=>∀ acc,H1 acc=none→bComp J g tI te acc Q (subSt k ix σ) (upd H1 acc (.lst []))
theorem pe_comp (S:CompScope X sc cl N k ix) (hc:X.calm=true) (hp:PI X tg iter wi) (hg:∀ C fp s H,PG (cxComp X N sc cl C fp s H) tg g) (hi:∀ C fp s H,PIf (cxComp X N sc cl C fp s H) ifs tI)
  (he:∀ C fp s H,PE (cxComp X N sc cl C fp s H) elt te) (hs:∀ x,foldedSetIterable iter X.env x=pure x:=by intro _;rfl):PE X (.ListComp elt [⟨tg,iter,ifs,0⟩] sc pos) (tComp k ix wi g tI te):=by
 intro pins s σ H Q I h
 rw[eval_ListComp]
 refine wpAny_comprehension_free (use:=none) rfl hs S.clos S.kind S.names (thn (hp pins s σ H _ I h) fun xv s₁ h₁=>thn h₁ fun itv s₂ h₂=>?_)
 obtain⟨it,fp,tn,J,H2,e,I2,T,st2,f2,q2⟩:=h₂
 subst e
 refine comp_block (RR:=fun acc C=>compPost (model X.prog X.w) X.A X.xe none (EP X pins σ Q) acc C) S hc hg hi he I2 T st2 f2 q2 fun acc C H' s' I' fC hm hq=>?_
 obtain⟨m,hn⟩:=hm
 obtain⟨f0,f1,f2,f3,f4,f5⟩:=fC
 exact⟨m,hn,fun h' hs'=>⟨.ref acc,H',I'.turned (t':=s'.toks) (fun b o hb e=>hs'.extBut b o hb e) f0 f1 f3 f4 f5,rfl,hq⟩⟩
end
end L2
namespace L2
open PySem PySem.Spec PyProof.Rows
section
variable {X:Cx}
theorem zdD:OpR X (binaryOp .FloorDiv) (rI (fun _ j=>0<j∧j<2 ^ 200) fun i j=>.int (i / j)):=opI fun i j _ _ _ _ _ hc q=>by
 have h1:(0:Int)<j:=hc.1
 have h2:j<2 ^ 200:=hc.2
 have h3:j.natAbs<2 ^ 200:=by omega
 have h4:j.natAbs≠0:=by omega
 have h5:j.natAbs.log2<9000:=(Nat.log2_lt h4).mpr (Nat.lt_of_lt_of_le h3 (Nat.pow_le_pow_right (by decide) (by decide)))
 exact floordiv_int (by omega) (by rw[Int.fdiv_eq_ediv_of_nonneg i (by omega)];exact q) (.inl (PyProof.noPylong_of_log2 h5))
theorem zbf:OpR X (compareOp .LtE) (fun x y H Q=>∃ i j,x=.str i∧y=.str j∧Q (.bl (!(decide (j.cps.toList<i.cps.toList)))) H):=by
 intro pins s σ H x y v u Q I rx ry h
 obtain⟨i,j,rfl,rfl,q⟩:=h
 obtain⟨t,rfl⟩:=rx
 obtain⟨t',rfl⟩:=ry
 exact P.le_str ⟨.bl _,H,I,rfl,q⟩
end
def Its (x:Str):It:=⟨fun i _=>i<x.cps.size,fun i H y H'=>H'=H∧∃ c,x.cps[i]?=some c∧y=.str ⟨#[c]⟩,fun i _=>x.cps.size≤i⟩
theorem turn_str {P:Program}{w:World}{K:PySem.W.Frag}{tg:Expr} (it:Addr) (x:Str) (t:Tok):Turn P w K tg (Its x) [it] it (fun i h=>h.IsStrIter it "str_ascii_iterator" x t i) where
 mem:=by simp
 obj:=fun i h st b hb=>by
  have e:b=it:=by simpa using hb
  subst e
  obtain⟨o,e,c,d⟩:=st
  exact⟨o,e,fun v z=>by rw[d] at z;cases z⟩
 keep:=fun i h h' st k=>by
  obtain⟨o,e,c,d⟩:=st
  exact⟨o,k it (by simp) o e,c,d⟩
 item:=by
  intro X hP hw hK hc i pins s σ H E I hf st hg
  subst hP hw hK
  obtain⟨f0,f1,f2,f3,f4,f5⟩:=hf it (by simp)
  have hx:x.cps[i]?=some x.cps[i]:=Array.getElem?_eq_getElem hg
  refine wpAny_pyNext_ascii_item st hx fun h' st' sb=>?_
  have I1:Inv X pins σ H { s with heap:=h',toks:=s.toks+1 }:=I.turned (t':=s.toks+1) (fun b o hb e=>(sb.2 b hb).trans e) f0 f1 f3 f4 f5
  obtain⟨o,e,c,d⟩:=id st'
  exact⟨_,rfl,go_of (s:={ s with heap:=h',toks:=s.toks+1 }) e c d (by decide) ⟨.str ⟨#[x.cps[i]]⟩,H,I1,⟨_,rfl⟩,⟨rfl,_,hx,rfl⟩,st',fun b hb=>(hf b hb).1⟩⟩
 done:=by
  intro X hP hw hK hc i pins s σ H E I hf st hg
  subst hP hw hK
  obtain⟨f0,f1,f2,f3,f4,f5⟩:=hf it (by simp)
  exact wpAny_pyNext_ascii_end (I.ok.hd hc) st (Array.getElem?_eq_none hg) fun h' eb=>⟨rfl,I.turned (t':=s.toks) (fun b o hb e=>eb b o hb e) f0 f1 f3 f4 f5⟩
 self:=fun A i s Q E st h=>by
  refine wpAny_pyIter_slot st.typeIs F.slot_str_ascii_iterator_iter (wpAny_call_entry F.slot_str_ascii_iterator_iter st.typeIs F.entry_str_ascii_iterator_iter ?_ (F.args_str_ascii_iterator_iter_1 _))
  show wpAny _ _ (ret (.ref it)) _ _ s
  exact wpAny_pure ⟨_,rfl,"str_ascii_iterator",_,st.typeIs,F.slot_str_ascii_iterator_next.lookup,h⟩
section
variable {X:Cx}
end
end L2
namespace HQ
open PySem PyProof.Rows PySem.SeqAt
def LtAt (A:Around) (s:Shared) (y x:Value) (b:Bool):Prop:=∀ (prog:Program) (w:World) (E Q:Value→Shared→Prop),Q (.bool b) s→wpAny (model prog w) A (richCompare .Lt y x) Q E s
inductive LexV (A:Around) (s:Shared):List Value→List Value→Bool→Prop
 | nn:LexV A s [] [] false
 | nc (x:Value) (xs:List Value):LexV A s [] (x::xs) true
 | cn (y:Value) (ys:List Value):LexV A s (y::ys) [] false
 | eq {y x:Value}{ys xs:List Value}{b:Bool}:EqAt A s y x true→LexV A s ys xs b→LexV A s (y::ys) (x::xs) b
 | ne {y x:Value}{ys xs:List Value}{b:Bool}:EqAt A s y x false→LtAt A s y x b→LexV A s (y::ys) (x::xs) b
section
open PySem.AutoSeq1 (wpAny_loadPart')
open PySem.MeetsSeq PySem.MeetsSeq2 PySem.MeetsSeq3
theorem zce (l b:Addr) (its its2:Array Value) (n n2:Nat) (dd dd2:Option Addr) (sl sl2:Array (Option Value)) (r:Bool) :
  Meets (Builtin.«tuple.__lt__» ⟨[.ref l,.ref b],[]⟩)
   (fun A R s=>s.heap.get? l=some { cls:=.type "tuple",dict:=dd,data:=.seq its n,slots:=sl }∧s.heap.get? b=some { cls:=.type "tuple",dict:=dd2,data:=.seq its2 n2,slots:=sl2 } ∧
    LexV A.in1 s its.toList its2.toList r∧R (.ok (.ret (.bool r))) s):=
 .of_wp fun prog w A R s h=>by
  obtain⟨hp,g,d,tk,os⟩:=s;obtain⟨hl,hb,hx0,h⟩:=h
  have f2:=AutoSeq1.sub_tuple_tuple
  wp_walk using wpAny_loadPart' hl,wpAny_loadPart' hb,wpAny_forIn_list _ (fun rest b s'=>b.1=none∧s'=⟨hp,g,d,tk,os⟩∧∃ (vs ws:List Value),rest=vs.zip ws ∧
   LexV A.in1 ⟨hp,g,d,tk,os⟩ vs ws r∧vs.length+its2.size=ws.length+its.size) _
  case turn=>
   rintro⟨y,x⟩ rest b s' ⟨hb',rfl,vs,ws,hz,hv,hlen⟩
   cases hv with
   | nn=>cases hz
   | nc=>cases hz
   | cn=>rw[List.zip_nil_right] at hz;cases hz
   | eq he ht=>
    rw[List.zip_cons_cons] at hz
    injection hz with hyx hrest
    injection hyx with hy hx
    subst hy hx
    simp only[List.length_cons] at hlen
    refine wpAny_bind (he prog w _ _ ?_)
    wp_walk
    exact⟨rfl,rfl,_,_,hrest,ht,by omega⟩
   | ne he hlt=>
    rw[List.zip_cons_cons] at hz
    injection hz with hyx hrest
    injection hyx with hy hx
    subst hy hx
    refine wpAny_bind (he prog w _ _ ?_)
    have hri:=hlt prog w
    wp_walk using hri
    exact⟨_,rfl,by simpa using h⟩
  case fin=>
   rintro⟨b1,b2⟩ s' ⟨hb',rfl,vs,ws,hz,hv,hlen⟩
   simp only at hb'
   subst hb'
   have hr:r=decide (its.size<its2.size):=by
    cases hv with
    | nn=>
     simp only[List.length_nil] at hlen
     exact(decide_eq_false (by omega)).symm
    | nc=>
     simp only[List.length_nil,List.length_cons] at hlen
     exact(decide_eq_true (by omega)).symm
    | cn=>
     simp only[List.length_nil,List.length_cons] at hlen
     exact(decide_eq_false (by omega)).symm
    | eq=>rw[List.zip_cons_cons] at hz;cases hz
    | ne=>rw[List.zip_cons_cons] at hz;cases hz
   rw[hr] at h
   wp_walk
   exact⟨_,rfl,by simpa [Builtin.Tuple.tupleCompareSizes] using h⟩
  case h=>
   exact⟨rfl,rfl,its.toList,its2.toList,rfl,hx0,by simp;omega⟩
end
end HQ
namespace L2
open PySem PySem.Spec PyProof.Rows
section
variable {X:Cx}{pins:List (Addr×Obj)}{σ:St}{H:Hp}{s:Shared}
theorem zeA {A:Around}{x y:V}{u v:Value} (fx:flatV x=true) (fy:flatV y=true) (rx:RelV x u) (ry:RelV y v):SeqAt.EqAt A s u v (eqV x y):=eqAt_V rx ry fx fy
theorem zav (A:Around):A.in1.units=A.units+1:=rfl
theorem eqs_items {A:Around}{R:V→V→Bool→Prop}{xs ys:List V}{us vs:List Value}{e:Nat→Bool} (r1:Vals xs us) (r2:Vals ys vs) (he:∀ (j:Nat) (x y:V),xs[j]?=some x→ys[j]?=some y→R x y (e j))
  (hR:∀ x y b u v,R x y b→RelV x u→RelV y v→SeqAt.EqAt A s u v b):∀ j (h1:j<us.toArray.size) (h2:j<vs.toArray.size),SeqAt.EqAt A s us.toArray[j] vs.toArray[j] (e j):=fun j h1 h2=>by
 have l1:=r1.length
 have l2:=r2.length
 have h1':j<us.length:=by simpa using h1
 have h2':j<vs.length:=by simpa using h2
 obtain⟨u,hu,ru⟩:=r1.get (i:=j) (x:=xs[j]'(by omega)) (List.getElem?_eq_getElem _)
 obtain⟨v,hv,rv⟩:=r2.get (i:=j) (x:=ys[j]'(by omega)) (List.getElem?_eq_getElem _)
 have eu:us.toArray[j]=u:=by
  rw[List.getElem?_eq_getElem h1'] at hu
  simpa using Option.some.inj hu
 have ev:vs.toArray[j]=v:=by
  rw[List.getElem?_eq_getElem h2'] at hv
  simpa using Option.some.inj hv
 rw[eu,ev]
 exact hR _ _ _ _ _ (he j _ _ (List.getElem?_eq_getElem _) (List.getElem?_eq_getElem _)) ru rv
end
end L2
namespace HZ
open PySem PyProof.Rows
section
variable {prog:Program}{w:World}{A:Around}{E:Value→Shared→Prop}{s:Shared}
end
end HZ
namespace L2
open PySem PySem.Spec PyProof.Rows
end L2
namespace HE
open PySem PyProof.Rows
open PySem.AutoSeq1 (wpAny_loadPart')
section
variable {prog:Program}{w:World}{A:Around}{E:Value→Shared→Prop}{s:Shared}
end
end HE
namespace L2
open PySem PySem.Spec PyProof.Rows
end L2
set_option maxHeartbeats 1000000
namespace KS
open PySem PySem.W PyProof.Rows
def Ko {α:Type} (n:Nat) (lt:Nat→Nat→Bool):KasT α→(α→Prop)→Prop
 | .ret a,Q=>Q a
 | .ask i j k,Q=>i<n∧j<n∧Ko n lt (k (lt i j)) Q
theorem Ko.bind {α β:Type}{n:Nat}{lt:Nat→Nat→Bool}{f:α→KasT β}{Q:β→Prop}:∀ (t:KasT α),Ko n lt t (fun a=>Ko n lt (f a) Q)→Ko n lt (t.bind f) Q
 | .ret _,h=>h
 | .ask i j k,h=>⟨h.1,h.2.1,Ko.bind (k (lt i j)) h.2.2⟩
theorem Ko.mono {α:Type}{n:Nat}{lt:Nat→Nat→Bool}{Q Q':α→Prop} (hq:∀ a,Q a→Q' a):∀ (t:KasT α),Ko n lt t Q→Ko n lt t Q'
 | .ret a,h=>hq a h
 | .ask i j k,h=>⟨h.1,h.2.1,Ko.mono hq (k (lt i j)) h.2.2⟩
theorem Ko.wp {α:Type}{n:Nat}{lt:Nat→Nat→Bool}{cmp:Nat→Nat→(Bool→Shared→Prop)→Shared→Prop}{s:Shared} (hc:∀ i j C,i<n→j<n→C (lt i j) s→cmp i j C s){Q:α→Prop}{G:α→Shared→Prop} (hG:∀ a,Q a→G a s):∀ (t:KasT α),Ko n lt t Q→t.kasWp cmp G s
 | .ret a,h=>hG a h
 | .ask i j k,h=>hc i j _ h.1 h.2.1 (Ko.wp hc hG (k (lt i j)) h.2.2)
section
variable {n:Nat}{r:Nat→Int}
def Kp (r:Nat→Int) (p:Array Nat) (i:Nat):Int:=r (p.getD i 0)
abbrev Lt (r:Nat→Int):Nat→Nat→Bool:=fun i j=>decide (r i<r j)
def Pm (n:Nat) (p:Array Nat):Prop:=p.toList.Perm (List.range n)
theorem Pm.size {p:Array Nat} (h:Pm n p):p.size=n:=by simpa using h.length_eq
theorem Pm.lt {p:Array Nat} (h:Pm n p){i:Nat} (hi:i<n):p.getD i 0<n:=by
 have hs:=h.size
 have e:p.getD i 0=p[i]:=by simp [Array.getD,hs,hi]
 rw[e]
 have:p[i]∈List.range n:=h.mem_iff.mp (by simp)
 simpa using this
theorem Pm.ne {p:Array Nat} (h:Pm n p) (hr:∀ i j,i<n→j<n→r i=r j→i=j){i j:Nat} (hi:i<n) (hj:j<n) (e:Kp r p i=Kp r p j):i=j:=by
 have hs:=h.size
 have nd:p.toList.Nodup:=h.nodup_iff.mpr List.nodup_range
 have e':=hr _ _ (h.lt hi) (h.lt hj) e
 have e1:p.getD i 0=p.toList[i]'(by simp;omega):=by simp [Array.getD,hs,hi]
 have e2:p.getD j 0=p.toList[j]'(by simp;omega):=by simp [Array.getD,hs,hj]
 rw[e1,e2] at e'
 exact(List.getElem_inj nd).mp e'
def Asc (r:Nat→Int) (p:Array Nat) (m:Nat):Prop:=∀ i j,i<j→j<m→Kp r p i<Kp r p j
def Dsc (r:Nat→Int) (p:Array Nat) (m:Nat):Prop:=∀ i j,i<j→j<m→Kp r p j<Kp r p i
theorem asc_ok {p:Array Nat} (P:Pm n p) (hr:∀ i j,i<n→j<n→r i=r j→i=j):∀ (f m:Nat),1≤m→m+f≤n→Asc r p m→Ko n (Lt r) (kas_asc p f m) (fun m'=>m≤m'∧m'≤m+f∧Asc r p m'∧(m'<m+f→Kp r p m'<Kp r p (m'-1)))
 | 0,m,h1,h2,h=>⟨Nat.le_refl _,Nat.le_refl _,h,fun z=>absurd z (Nat.lt_irrefl _)⟩
 | f+1,m,h1,h2,h=>by
  refine⟨P.lt (by omega),P.lt (by omega),?_⟩
  by_cases c:Kp r p m<Kp r p (m-1)
  ·have:Lt r (p.getD m 0) (p.getD (m-1) 0)=true:=decide_eq_true c
   rw[this];dsimp only;rw[if_pos rfl]
   exact⟨Nat.le_refl _,by omega,h,fun _=>c⟩
  ·have:Lt r (p.getD m 0) (p.getD (m-1) 0)=false:=decide_eq_false c
   rw[this];dsimp only;rw[if_neg (by simp)]
   have ne:Kp r p (m-1)≠Kp r p m:=fun e=>by have:=P.ne hr (by omega) (by omega) e;omega
   have lt:Kp r p (m-1)<Kp r p m:=by omega
   refine Ko.mono (fun m' ⟨a,b,c,d⟩=>⟨by omega,by omega,c,fun z=>d (by omega)⟩) _ (asc_ok P hr f (m+1) (by omega) (by omega) fun i j hij hj=>?_)
   by_cases e:j=m
   ·subst e
    by_cases e2:i=j-1
    ·rw[e2];exact lt
    ·exact Int.lt_trans (h i (j-1) (by omega) (by omega)) lt
   ·exact h i j hij (by omega)
theorem dsc_ok {p:Array Nat} (P:Pm n p) (hr:∀ i j,i<n→j<n→r i=r j→i=j):∀ (f m:Nat),1≤m→m+f≤n→Dsc r p m→Ko n (Lt r) (kas_desc f p m 0) (fun t=>t.1=p∧t.2.2=0∧m≤t.2.1∧t.2.1≤m+f∧Dsc r p t.2.1)
 | 0,m,h1,h2,h=>⟨rfl,rfl,Nat.le_refl _,Nat.le_refl _,h⟩
 | f+1,m,h1,h2,h=>by
  refine⟨P.lt (by omega),P.lt (by omega),?_⟩
  by_cases c:Kp r p m<Kp r p (m-1)
  ·have:Lt r (p.getD m 0) (p.getD (m-1) 0)=true:=decide_eq_true c
   rw[this];dsimp only;rw[if_pos rfl,if_neg (by omega)]
   refine Ko.mono (fun t ⟨a,b,c,d,e⟩=>⟨a,b,by omega,by omega,e⟩) _ (dsc_ok P hr f (m+1) (by omega) (by omega) fun i j hij hj=>?_)
   by_cases e:j=m
   ·subst e
    by_cases e2:i=j-1
    ·rw[e2];exact c
    ·exact Int.lt_trans c (h i (j-1) (by omega) (by omega))
   ·exact h i j hij (by omega)
  ·have:Lt r (p.getD m 0) (p.getD (m-1) 0)=false:=decide_eq_false c
   rw[this];dsimp only;rw[if_neg (by simp)]
   refine⟨P.lt (by omega),P.lt (by omega),?_⟩
   have ne:Kp r p (m-1)≠Kp r p m:=fun e=>by have:=P.ne hr (by omega) (by omega) e;omega
   have:Lt r (p.getD (m-1) 0) (p.getD m 0)=true:=decide_eq_true (by show Kp r p (m-1)<Kp r p m;omega)
   rw[this];dsimp only;rw[if_pos rfl]
   exact⟨rfl,rfl,Nat.le_refl _,(by show m≤m+(f+1);omega),h⟩
theorem zcL {p q:Array Nat}{i j:Nat} (h:p[i]?=q[j]?):p.getD i 0=q.getD j 0:=by
 rw[Array.getD_eq_getD_getElem?,Array.getD_eq_getD_getElem?,h]
theorem rev_pm {p:Array Nat} (P:Pm n p) (i j:Nat):Pm n (kas_rev p i j):=(mirror_perm p i j _).toList.trans P
theorem rev_k {p:Array Nat}{m:Nat} (hm:m≤p.size) (k:Nat):Kp r (kas_rev p 0 m) k=if k<m then Kp r p (m-1-k) else Kp r p k:=by
 have e:=getElem?_mirror_all (xs:=p) (i:=0) hm k
 unfold Kp kas_rev
 by_cases h:k<m
 ·rw[if_pos h]
  rw[if_pos ⟨Nat.zero_le _,h⟩] at e
  rw[zcL e]
  congr 2
  omega
 ·rw[if_neg h]
  rw[if_neg (by omega)] at e
  rw[zcL e]
theorem rev_asc {p:Array Nat}{m:Nat} (hm:m≤p.size) (h:Dsc r p m):Asc r (kas_rev p 0 m) m:=fun i j hij hj=>by
 rw[rev_k hm,rev_k hm,if_pos (by omega),if_pos hj]
 exact h (m-1-j) (m-1-i) (by omega) (by omega)
theorem count_ok {p:Array Nat} (P:Pm n p) (hr:∀ i j,i<n→j<n→r i=r j→i=j) (h1:1≤n):Ko n (Lt r) (kas_count n p) (fun t=>Pm n t.2∧1≤t.1∧t.1≤n∧Asc r t.2 t.1):=by
 refine Ko.bind _ (Ko.mono (fun m ⟨a,b,c,d⟩=>?_) _ (asc_ok P hr (n-1) 1 (Nat.le_refl _) (by omega) fun i j hij hj=>absurd hij (by omega)))
 by_cases e:(m==n)=true
 ·rw[if_pos e]
  have:m=n:=by simpa using e
  exact⟨P,by show 1≤m;omega,by show m≤n;omega,c⟩
 ·rw[if_neg e]
  have ne:m≠n:=by simpa using e
  by_cases g:m > 1
  ·rw[if_pos g]
   refine⟨P.lt (by omega),P.lt (by omega),?_⟩
   have:Lt r (p.getD 0 0) (p.getD (m-1) 0)=true:=decide_eq_true (c 0 (m-1) (by omega) (by omega))
   rw[this];dsimp only;rw[if_pos rfl]
   exact⟨P,by show 1≤m;omega,by show m≤n;omega,c⟩
  ·rw[if_neg g]
   have em:m=1:=by omega
   subst em
   have d1:=d (by omega)
   unfold kas_descPart
   have hd:=dsc_ok P hr (n-(1+1)) (1+1) (by omega) (by omega) (r:=r) fun i j hij hj=>by
    have ei:i=0:=by omega
    have ej:j=1:=by omega
    subst ei ej
    exact d1
   refine Ko.bind _ (Ko.mono ?_ _ hd)
   ·rintro⟨t1,t2,t3⟩ ⟨a1,a2,a3,a4,a5⟩
    simp only at a1 a2 a3 a4 a5
    subst a1 a2
    rw[if_neg (by simp)]
    have sz:=P.size
    have Q2:=rev_pm P 0 t2
    unfold kas_tail3
    refine Ko.bind _ (Ko.mono (fun m ⟨b1,b2,b3,_⟩=>?_) _ (asc_ok Q2 hr (n-t2) t2 (by omega) (by omega) (rev_asc (by omega) a5)))
    exact⟨Q2,by show 1≤m;omega,by show m≤n;omega,b3⟩
theorem zdx {p:Array Nat} (P:Pm n p) (hr:∀ i j,i<n→j<n→r i=r j→i=j){k:Nat} (hk:k<n) (ha:Asc r p k):∀ (f lo hi:Nat),hi≤lo+f→lo≤hi→hi≤k→(∀ i,i<lo→Kp r p i<Kp r p k)→(∀ i,hi≤i→i<k→Kp r p k<Kp r p i) →
  Ko n (Lt r) (kas_place p k f lo hi) (fun l=>l≤k∧(∀ i,i<l→Kp r p i<Kp r p k)∧∀ i,l≤i→i<k→Kp r p k<Kp r p i)
 | 0,lo,hi,h1,h2,h3,h4,h5=>⟨by omega,h4,fun i a b=>h5 i (by omega) b⟩
 | f+1,lo,hi,h1,h2,h3,h4,h5=>by
  unfold kas_place
  by_cases g:lo≥hi
  ·rw[if_pos g]
   exact⟨by omega,h4,fun i a b=>h5 i (by omega) b⟩
  ·rw[if_neg g]
   refine⟨P.lt hk,P.lt (by omega),?_⟩
   by_cases c:Kp r p k<Kp r p ((lo+hi) / 2)
   ·have:Lt r (p.getD k 0) (p.getD ((lo+hi) / 2) 0)=true:=decide_eq_true c
    rw[this];dsimp only;rw[if_pos rfl]
    refine zdx P hr hk ha f lo ((lo+hi) / 2) (by omega) (by omega) (by omega) h4 fun i a b=>?_
    by_cases e:i=(lo+hi) / 2
    ·rw[e];exact c
    ·exact Int.lt_trans c (ha _ i (by omega) b)
   ·have:Lt r (p.getD k 0) (p.getD ((lo+hi) / 2) 0)=false:=decide_eq_false c
    rw[this];dsimp only;rw[if_neg (by simp)]
    have ne:Kp r p ((lo+hi) / 2)≠Kp r p k:=fun e=>by have:=P.ne hr (by omega) hk e;omega
    refine zdx P hr hk ha f ((lo+hi) / 2+1) hi (by omega) (by omega) h3 (fun i a=>?_) h5
    by_cases e:i=(lo+hi) / 2
    ·rw[e];omega
    ·have:=ha i ((lo+hi) / 2) (by omega) (by omega)
     omega
theorem bub_k {p:Array Nat}{k l:Nat} (hk:k<p.size) (hl:l≤k) (i:Nat):Kp r (bubble p k (k-l)) i=if i=l then Kp r p k else if l<i∧i≤k then Kp r p (i-1) else Kp r p i:=by
 have e:=getElem?_bubble hk (k-l) (by omega) i
 have el:k-(k-l)=l:=by omega
 rw[el] at e
 unfold Kp
 by_cases h:i=l
 ·rw[if_pos h];rw[if_pos h] at e;rw[zcL e]
 ·rw[if_neg h];rw[if_neg h] at e
  by_cases g:l<i∧i≤k
  ·rw[if_pos g];rw[if_pos g] at e;rw[zcL e]
  ·rw[if_neg g];rw[if_neg g] at e;rw[zcL e]
theorem bin_ok (hr:∀ i j,i<n→j<n→r i=r j→i=j):∀ (f:Nat) (p:Array Nat) (k:Nat),Pm n p→k+f=n→Asc r p k→Ko n (Lt r) (kas_bin f p k) (fun q=>Pm n q∧Asc r q n)
 | 0,p,k,P,hk,h=>⟨P,by rw[← hk];exact h⟩
 | f+1,p,k,P,hk,h=>by
  refine Ko.bind _ (Ko.mono (fun l ⟨a,b,c⟩=>?_) _ (zdx P hr (by omega) h k 0 k (by omega) (by omega) (Nat.le_refl _) (fun i hi=>absurd hi (by omega)) (fun i hi hj=>absurd hi (by omega))))
  have hs:k<p.size:=by rw[P.size];omega
  refine bin_ok hr f _ (k+1) ((bubble_perm p k (k-l)).toList.trans P) (by omega) fun i j hij hj=>?_
  rw[bub_k hs a,bub_k hs a]
  by_cases e1:i=l
  ·rw[if_pos e1,if_neg (by omega),if_pos (by omega)]
   exact c (j-1) (by omega) (by omega)
  ·rw[if_neg e1]
   by_cases e2:j=l
   ·rw[if_pos e2,if_neg (by omega)]
    exact b i (by omega)
   ·rw[if_neg e2]
    by_cases g1:l<i∧i≤k
    ·rw[if_pos g1,if_pos (by omega)]
     exact h (i-1) (j-1) (by omega) (by omega)
    ·rw[if_neg g1]
     by_cases g2:l<j∧j≤k
     ·rw[if_pos g2]
      by_cases g3:i=j-1
      ·omega
      ·exact h i (j-1) (by omega) (by omega)
     ·rw[if_neg g2]
      exact h i j hij (by omega)
theorem sort_ok (hr:∀ i j,i<n→j<n→r i=r j→i=j) (h1:1≤n):Ko n (Lt r) (kas_sort n) (fun q=>Pm n q∧Asc r q n):=by
 have P:Pm n (List.toArray (List.range n)):=by unfold Pm;simp
 refine Ko.bind _ (Ko.mono (fun t ⟨a,b,c,d⟩=>?_) _ (count_ok P hr h1))
 by_cases g:t.1<n
 ·rw[if_pos g]
  have e:max t.1 1=t.1:=by omega
  rw[e]
  exact bin_ok hr _ _ _ a (by omega) d
 ·rw[if_neg g]
  have e:t.1=n:=by omega
  exact⟨a,e▸d⟩
end
end KS
namespace L2
open PySem
section
variable {M:Model}{A:Around}{E:Value→Shared→Prop}{s:Shared}
end
end L2
set_option maxHeartbeats 4000000
namespace L2
open PySem
def tx:Value→Str
 | .str z _=>z
 | _=>""
section
variable {prog:Program}{w:World}{A:Around}{E:Value→Shared→Prop}{s:Shared}{a:Addr}{lb:Bool}
end
end L2
namespace L2
open PySem PyProof.Rows
section
variable {prog:Program}{w:World}{A:Around}{R:Result→Shared→Prop}{I:Addr}{fp wr:List Addr}{G:Array GenState→Array GenState→Prop}{n:Nat}{P:Nat→Value→Prop}{St:Nat→Shared→Prop}{lb:Bool}
end
section
variable {prog:Program}{w:World}{A:Around}{E:Value→Shared→Prop}{s:Shared}
def byT (w:World):Bool:=w.params.followText "set-order"
end
end L2
namespace L2
open PySem PyProof.Rows
end L2
set_option maxHeartbeats 400000
namespace L2
open PySem PyProof.Rows
section
variable {prog:Program}{w:World}{A:Around}{E:Value→Shared→Prop}{s:Shared}{a:Addr}{zs:List Str}{es:Array (Int×Value)}{ep:Nat}{t:SetTable}
def slt (w:World) (t:SetTable) (i:Nat):Nat:=if byT w then 0 else if i=0 then 0 else t.place.getD (i-1) 0+1
end
end L2
namespace L2
open PySem PyProof.Rows
def fnd (es:Array (Int×Value)) (pl:Array Nat) (i:Nat):Option (Value×Nat):=match es[i]?,pl[i]? with
 | some (_,x),some j=>some (x,j+1)
 | _,_=>none
section
variable {prog:Program}{w:World}{A:Around}{E:Value→Shared→Prop}{s:Shared}{a:Addr}{zs:List Str}{es:Array (Int×Value)}{ep:Nat}{t:SetTable}
end
end L2
namespace L2
open PySem PyProof.Rows
section
variable {prog:Program}{w:World}{A:Around}{E:Value→Shared→Prop}{s:Shared}{it a:Addr}{zs:List Str}{es:Array (Int×Value)}{ep:Nat}{t:SetTable}
end
end L2
namespace L2
open PySem PyProof.Rows
section
variable {prog:Program}{w:World}{A:Around}{E:Value→Shared→Prop}{s:Shared}{it a:Addr}{zs:List Str}{es:Array (Int×Value)}{ep:Nat}{t:SetTable}
end
end L2
set_option maxHeartbeats 4000000
namespace L2
open PySem PyProof.Rows
section
variable {prog:Program}{w:World}{A:Around}{E:Value→Shared→Prop}{s:Shared}
end
end L2
namespace L2
open PySem PySem.Spec PyProof.Rows
section
variable {κ:Type} [DecidableEq κ]
theorem valV_none {kvs:List (κ×V)}{k:κ} (h:¬ k∈kvs.map (·.1)):valV kvs k=none:=by
 cases e:valV kvs k with
 | none=>rfl
 | some v=>exact absurd (valV_in e) h
theorem zdk:∀ {ks:List κ}{vs:List V}{i:Nat}{k:κ}{v:V},ks.Nodup→ks[i]?=some k→vs[i]?=some v→valV (ks.zip vs) k=some v
 | [],_,_,_,_,_,hk,_=>by simp at hk
 | _::_,[],_,_,_,_,_,hv=>by simp at hv
 | a::ks,b::vs,0,k,v,nd,hk,hv=>by
  simp at hk hv
  subst hk hv
  exact zbI (p:=(a,b)) rfl
 | a::ks,b::vs,i+1,k,v,nd,hk,hv=>by
  have hk':ks[i]?=some k:=by simpa using hk
  have hne:¬ (a=k):=fun e=>by
   subst e
   exact(List.nodup_cons.mp nd).1 (List.mem_of_getElem? hk')
  show valV ((a,b)::ks.zip vs) k=some v
  rw[zbJ (p:=(a,b)) hne]
  exact zdk (List.nodup_cons.mp nd).2 hk' (by simpa using hv)
theorem zcz:∀ {ks:List κ}{vs:List V}{i:Nat}{k:κ} (v:V),ks.Nodup→ks[i]?=some k→vs.length=ks.length→(ks.zip vs).map (fun kv=>if kv.1=k then (kv.1,v) else kv)=ks.zip (vs.set i v)
 | [],_,_,_,_,_,hk,_=>by simp at hk
 | _::_,[],_,_,_,_,_,hl=>by simp at hl
 | a::ks,b::vs,0,k,v,nd,hk,hl=>by
  simp at hk
  subst hk
  show(if a=a then (a,v) else (a,b))::(ks.zip vs).map _=(a,v)::ks.zip vs
  rw[if_pos rfl]
  congr 1
  have:∀ kv∈ks.zip vs,(if kv.1=a then (kv.1,v) else kv)=kv:=fun kv hm=>by
   rw[if_neg fun e=>(List.nodup_cons.mp nd).1 (by rw[← e];exact(List.of_mem_zip (a:=kv.1) (b:=kv.2) hm).1)]
  conv=>rhs;rw[← List.map_id (ks.zip vs)]
  exact List.map_congr_left this
 | a::ks,b::vs,i+1,k,v,nd,hk,hl=>by
  have hk':ks[i]?=some k:=by simpa using hk
  have hne:¬ (a=k):=fun e=>by
   subst e
   exact(List.nodup_cons.mp nd).1 (List.mem_of_getElem? hk')
  show(if a=k then (a,v) else (a,b))::(ks.zip vs).map _=(a,b)::ks.zip (vs.set i v)
  rw[if_neg hne,zcz v (List.nodup_cons.mp nd).2 hk' (by simpa using hl)]
theorem putK_zip {ks:List κ}{vs:List V}{i:Nat}{k:κ} (v:V) (nd:ks.Nodup) (hk:ks[i]?=some k) (hl:vs.length=ks.length):putK (ks.zip vs) k v=ks.zip (vs.set i v):=by
 unfold putK
 have hi:i<vs.length:=by rw[hl];exact(List.getElem?_eq_some_iff.mp hk).1
 have e:=zdk (vs:=vs) (v:=vs[i]) nd hk (List.getElem?_eq_getElem hi)
 rw[if_pos (by rw[zbK,e];rfl),zcz v nd hk hl]
end
theorem zdb:∀ (more kvs:List (Key×V)),((kvs++more).map (·.1)).Nodup→mergeK kvs more=kvs++more
 | [],kvs,_=>by rw[List.append_nil];rfl
 | p::r,kvs,nd=>by
  have hn:¬ p.1∈kvs.map (·.1):=fun m=>by
   rw[List.map_append,List.map_cons] at nd
   exact(List.nodup_append.mp nd).2.2 p.1 m p.1 List.mem_cons_self rfl
  show mergeK (putK kvs p.1 p.2) r=_
  rw[putK_new _ (valV_none hn),zdb r _ (by rw[List.append_assoc];exact nd),List.append_assoc]
  rfl
def But (d:Addr) (H H':Hp):Prop:=∀ c o,H c=some o→c≠d→H' c=some o
theorem But.refl (d:Addr) (H:Hp):But d H H:=fun _ _ h _=>h
theorem But.upd {d:Addr}{H H':Hp} (a:But d H H') (o:HO):But d H (L2.upd H' d o):=fun c u h n=>by rw[zac n];exact a c u h n
theorem But.seq {K:PySem.W.Frag}{d:Addr}{H H':Hp}{a:Addr}{xs:List V}{kvs:List (Key×V)} (b:But d H H') (hd:H d=some (.dK kvs)) (h:SqL K H a xs):SqL K H' a xs:=by
 rcases h with (h | ⟨o,h⟩) | h
 ·exact .inl (.inl (b _ _ h (ne_of h hd (fun z=>nomatch z))))
 ·exact .inl (.inr ⟨o,b _ _ h (ne_of h hd (fun z=>nomatch z))⟩)
 ·exact .inr h
theorem zam {H:Hp}{p:Addr} (h:H p=none) (o:HO):Same H (L2.upd H p o):=fun b u q=>by rw[zac (zae q h)];exact q
def SK:List Key:=[.inr "script",.inr "at",.inr "left",.inr "way"]
theorem SK_nd:SK.Nodup:=by decide +kernel
structure Bs where
 nm:Int
 pt:Int
 x:Str
 z:Int
 y:Int
 /-- a thing that stands as it is through the whole law: where,what (a code table: see PpClo3) -/
 tb:Option (Addr×Array Value)
def SV (a:Addr) (t l w:Int) (B:Bs):List V:=[.ref a,.int t,.int l,.int w]
theorem dget {H:Hp}{d:Addr}{vs:List V}{i:Nat}{x:Str}{v:V} (hd:H d=some (.dK (SK.zip vs))) (hk:SK[i]?=some (.inr x)) (hv:vs[i]?=some v):DGet H d (.str x) (some v):=by
 have g:=DGet.k (k:=Sum.inr x) hd
 rw[zdk SK_nd hk hv] at g
 exact g
theorem dput {H:Hp}{d:Addr}{vs:List V}{i:Nat}{x:Str}{v:V} (hd:H d=some (.dK (SK.zip vs))) (hl:vs.length=4) (hk:SK[i]?=some (.inr x)):DPut H d (.str x) v (L2.upd H d (.dK (SK.zip (vs.set i v)))):=by
 have e:putK (SK.zip vs) (Sum.inr x) v=SK.zip (vs.set i v):=putK_zip v SK_nd hk hl
 have g:=DPut.k (k:=Sum.inr x) (v:=v) hd (by rw[List.length_zip,hl];decide)
 rw[e] at g
 exact g
structure StAt (H:Hp) (d a:Addr) (n:Nat) (B:Bs):Prop where
 ex:∃ (t l w:Int),H d=some (.dK (SK.zip (SV a t l w B)))∧1≤t∧t≤(n:Int)+64∧0≤l
 tb:∀ T o,B.tb=some (T,o)→H T=some (.tbl o)∧T≠d
theorem StAt.dk {H:Hp}{d a:Addr}{n:Nat}{B:Bs} (h:StAt H d a n B):∃ kvs,H d=some (.dK kvs):=by
 obtain⟨t,l,w,e,_⟩:=h.ex
 exact⟨_,e⟩
theorem StAt.same {H H':Hp}{d a:Addr}{n:Nat}{B:Bs} (h:StAt H d a n B) (s:Same H H'):StAt H' d a n B:=by
 obtain⟨t,l,w,e,r⟩:=h.ex
 exact⟨⟨t,l,w,s _ _ e,r⟩,fun T o z=>⟨s _ _ (h.tb T o z).1,(h.tb T o z).2⟩⟩
theorem StAt.tbB {H H1:Hp}{d a:Addr}{n:Nat}{B B':Bs} (h:StAt H d a n B) (b:But d H H1) (e:B'.tb=B.tb):∀ T o,B'.tb=some (T,o)→H1 T=some (.tbl o)∧T≠d:=fun T o z=>by
 obtain⟨h1,h2⟩:=h.tb T o (e▸z)
 exact⟨b _ _ h1 h2,h2⟩
def Scr (K:PySem.W.Frag) (H:Hp) (a:Addr):Prop:=∃ ns:List Int,SqL K H a (ns.map V.int)∧ns.length≤63
def spTake (K:PySem.W.Frag):Sp:=fun vs H Q _=>∃ (d a:Addr) (n:Nat) (B:Bs) (m:Int),vs=[.ref d,.int m]∧StAt H d a n B∧Scr K H a∧n≤100000∧0<m∧m<2 ^ 200 ∧
 ∀ (r:Int) (H':Hp),0≤r→r<m→StAt H' d a (n+1) B→But d H H'→Q (.int r) H'
theorem at_int {ns:List Int}{k:Int} (h0:0≤k) (h:k<(ns.length:Int)):∃ v:Int,atI (ns.map V.int) k=some (.int v):=by
 have hk:k.toNat<ns.length:=by omega
 have ek:k=((k.toNat:Nat):Int):=by omega
 have q:atI (ns.map V.int) ((k.toNat:Nat):Int)=some (.int ns[k.toNat]):=zfq (by rw[List.getElem?_map,List.getElem?_eq_getElem hk]<;>rfl)
 rw[← ek] at q
 exact⟨_,q⟩
end L2
namespace L2
open PySem PySem.Spec PyProof.Rows
def clFrom (env:Env):List (Str×NameKind)→List (Str×Addr)→List (Str×Addr)
 | [],acc=>acc
 | (n,k)::r,acc=>if (k==NameKind.free)=true then clFrom env r ((n,(env.cells.lookup n).getD 0)::acc) else clFrom env r acc
theorem zcP {env:Env}:∀ (names:List (Str×NameKind)) (acc:List (Str×Addr)),(∀ y∈names,y.2=.free→∃ c,env.cells.lookup y.1=some c) →
  (forIn (m:=Sem) names acc fun x cs=>match x with | (name,kind)=>if (kind==NameKind.free)=true then (do let c ← cellOf env name;pure (ForInStep.yield ((name,c)::cs))) else pure (ForInStep.yield cs))=pure (clFrom env names acc)
 | [],acc,_=>rfl
 | (n,k)::r,acc,h=>by
  rw[List.forIn_cons]
  by_cases hk:(k==NameKind.free)=true
  ·obtain⟨c,hc⟩:=h (n,k) List.mem_cons_self (by simpa using hk)
   have e:cellOf env n=pure c:=by
    unfold cellOf
    rw[hc]
   have z:=zcP r ((n,c)::acc) fun y hy=>h y (List.mem_cons_of_mem _ hy)
   unfold clFrom
   rw[if_pos hk,hc]
   simp only[hk,if_true,e]
   exact z
  ·have z:=zcP r acc fun y hy=>h y (List.mem_cons_of_mem _ hy)
   unfold clFrom
   rw[if_neg hk]
   simp only[hk]
   exact z
theorem clos_of {sc:Scope}{env:Env} (h:∀ y∈sc.names,y.2=.free→∃ c,env.cells.lookup y.1=some c):closureFor sc env=pure (clFrom env sc.names []):=by
 have z:=zcP sc.names [] h
 simp only[closureFor]
 first
  | (rw[z];rfl)
  | exact z
theorem zbm {env:Env}:∀ (names:List (Str×NameKind)) (acc:List (Str×Addr)),(∀ y∈names,y.2=.free→∃ c,env.cells.lookup y.1=some c)→(∀ p∈acc,env.cells.lookup p.1=some p.2)→∀ p∈clFrom env names acc,env.cells.lookup p.1=some p.2
 | [],acc,_,ha,p,hp=>ha p hp
 | (n,k)::r,acc,h,ha,p,hp=>by
  unfold clFrom at hp
  by_cases hk:(k==NameKind.free)=true
  ·rw[if_pos hk] at hp
   refine zbm r _ (fun y hy=>h y (List.mem_cons_of_mem _ hy)) (fun q hq=>?_) p hp
   rcases List.mem_cons.mp hq with rfl | hq
   ·obtain⟨c,hc⟩:=h (n,k) List.mem_cons_self (by simpa using hk)
    show env.cells.lookup n=some ((env.cells.lookup n).getD 0)
    rw[show env.cells.lookup n=some c from hc]
    rfl
   ·exact ha q hq
  ·rw[if_neg hk] at hp
   exact zbm r acc (fun y hy=>h y (List.mem_cons_of_mem _ hy)) ha p hp
theorem zbn {env:Env}:∀ (names:List (Str×NameKind)) (acc:List (Str×Addr)),(∀ p∈acc,p∈clFrom env names acc)
 | [],acc,p,hp=>hp
 | (n,k)::r,acc,p,hp=>by
  unfold clFrom
  split
  ·exact zbn r _ p (List.mem_cons_of_mem _ hp)
  ·exact zbn r acc p hp
theorem zcd {env:Env}:∀ (names:List (Str×NameKind)) (acc:List (Str×Addr)) (x:Str),(x,NameKind.free)∈names→∃ c,(x,c)∈clFrom env names acc
 | [],_,_,h=>nomatch h
 | (n,k)::r,acc,x,h=>by
  unfold clFrom
  rcases List.mem_cons.mp h with e | h
  ·cases e
   rw[if_pos (by rfl)]
   exact⟨_,zbn r _ _ List.mem_cons_self⟩
  ·split
   ·exact zcd r _ x h
   ·exact zcd r acc x h
theorem zbq {β:Type}{x:Str}{c:β}:∀ {l:List (Str×β)},l.lookup x=some c→(x,c)∈l
 | [],h=>nomatch h
 | (n,d)::r,h=>by
  rw[List.lookup_cons] at h
  cases e:(x==n) with
  | true=>
   rw[e] at h
   have q:x=n:=by simpa using e
   cases h
   subst q
   exact List.mem_cons_self
  | false=>
   rw[e] at h
   exact List.mem_cons_of_mem _ (zbq h)
theorem zdd {β:Type}{x:Str}{c:β}:∀ {l:List (Str×β)},(x,c)∈l→∃ d,l.lookup x=some d
 | [],h=>nomatch h
 | (n,d)::r,h=>by
  rw[List.lookup_cons]
  cases e:(x==n) with
  | true=>exact⟨d,rfl⟩
  | false=>
   rcases List.mem_cons.mp h with q | q
   ·cases q
    rw[beq_self_eq_true] at e
    cases e
   ·exact zdd q
theorem compScope {X:Cx}{sc:Scope}{N:List Str}{k:Nat}{ix:List Nat} (kind:sc.kind=.function) (nocell:∀ y∈sc.names,y.2≠.cell) (names:∀ y∈sc.names,y.2=.local→sc.names.lookup y.1=some .local)
  (hfr:∀ y∈sc.names,y.2=.free→∃ c,X.env.cells.lookup y.1=some c) (len:N.length=k+ix.length)
  (caught:∀ i j x,ix[i]?=some j→N[k+i]?=some x→X.N[j]?=some x∧(X.env.kindOf x=some .cell∨X.env.kindOf x=some .free)∧((relabel sc X.env).names.lookup x=some .cell∨(relabel sc X.env).names.lookup x=some .free)) :
  CompScope X sc (clFrom X.env sc.names []) N k ix where
 clos:=clos_of hfr
 kind:=kind
 nocell:=nocell
 names:=names
 sub:=fun x c h=>zbm sc.names [] hfr (fun _ hp=>nomatch hp) (x,c) (zbq h)
 has:=fun x h=>by
  have free:(x,NameKind.free)∈sc.names:=by
   rcases h with h | h
   ·have m:=zbq h
    obtain⟨⟨n,kd⟩,hm,e⟩:=List.mem_map.mp m
    dsimp only at e
    split at e
    ·rename_i hc
     cases e
     rw[Bool.and_eq_true,Bool.and_eq_true] at hc
     have:kd=.free:=by simpa using hc.1.1
     subst this
     exact hm
    ·cases e
     exact absurd rfl (nocell _ hm)
   ·have m:=zbq h
    obtain⟨⟨n,kd⟩,hm,e⟩:=List.mem_map.mp m
    dsimp only at e
    split at e
    ·cases e
    ·cases e
     exact hm
  obtain⟨c,hc⟩:=zcd (env:=X.env) sc.names [] x free
  exact zdd hc
 len:=len
 caught:=caught
theorem compScope0 {X:Cx}{sc:Scope}{N:List Str}{k:Nat} (kind:sc.kind=.function) (nocell:∀ y∈sc.names,y.2≠.cell) (nofree:∀ y∈sc.names,y.2≠.free)
  (names:∀ y∈sc.names,y.2=.local→sc.names.lookup y.1=some .local) (len:N.length=k):CompScope X sc (clFrom X.env sc.names []) N k []:=
 compScope kind nocell names (fun y hy h=>absurd h (nofree y hy)) (by simpa using len) (fun i j x h=>by simp at h)
end L2
namespace L2
open PySem PySem.Spec PyProof.Rows
section
variable {X:Cx}
theorem part_of {v:Value}{o:Option Int} (p:IsPart v o):∃ l:Option (Int×Tok),v=partValue l∧o=l.map (·.1):=by
 cases p with
 | none=>exact⟨none,rfl,rfl⟩
 | int i t=>exact⟨some (i,t),rfl,rfl⟩
theorem sl_str:SlR X (fun x lo hi H Q=>∃ z,x=.str z∧z.length≤sizeLine∧Q (.str (Txt.slice z lo hi)) H):=by
 intro pins s σ H x v vl vu lo hi sl Q I rx hs pl pu h
 obtain⟨z,rfl,hz,q⟩:=h
 obtain⟨t,rfl⟩:=rx
 obtain⟨l,rfl,rfl⟩:=part_of pl
 obtain⟨u,rfl,rfl⟩:=part_of pu
 refine⟨"str",_,F.slot_str_getitem.lookup,typeIs_str _ _ _,?_⟩
 refine wpAny_getItem_str_slice (l:=l) (u:=u) (st:=none) hs rfl (post_val_or_str ⟨Nat.le_trans (Txt.slice_le z _ _) hz,fun t' k=>?_⟩)
 exact⟨.str _,H,I.kept (t':=k) fun b ob q=>q,⟨t',rfl⟩,q⟩
end
end L2
set_option maxHeartbeats 400000
namespace L2
open PySem PyProof.Rows
section
variable {prog:Program}{w:World}{A:Around}{E:Value→Shared→Prop}{s:Shared}{a:Addr}{zs:List Str}{es:Array (Int×Value)}{ep:Nat}{t:SetTable}
end
end L2
namespace L2
open PySem PySem.Spec PyProof.Rows
def leS (a b:Str):Prop:=¬ b.cps.toList<a.cps.toList
def Srt (zs ss:List Str):Prop:=ss.Perm zs∧ss.Pairwise leS
section
variable {X:Cx}
end
end L2
set_option maxHeartbeats 4000000
namespace L2
open PySem PySem.Spec PyProof.Rows
theorem zfn {J:It}{g:TG}{tI:TT}{te:TE}{acc:Addr}{Q:VK}{σ:St}{H:Hp} (n:Nat) (Pv:Nat→St→Hp→Prop) (h0:Pv 0 σ H) (stop:∀ σ H,Pv n σ H→J.stop n H∧Q (.ref acc) H)
  (go:∀ i σ H,i<n→Pv i σ H→J.go i H∧∀ x H2,J.yld i H x H2→g x σ H2 fun σ3 H3=>tI σ3 H3 fun b H4=>if b=true then te σ3 H4 fun y H5=>∃ ys,H5 acc=some (.lst ys)∧ys.length<sizeLine∧Pv (i+1) σ3 (upd H5 acc (.lst (ys++[y]))) else Pv (i+1) σ3 H4) :
  bComp J g tI te acc Q σ H:=by
 refine⟨fun i m σ H=>m=n-i∧i≤n∧Pv i σ H,⟨n,by simp,Nat.zero_le _,h0⟩,?_⟩
 rintro i m σ H ⟨rfl,hi,p⟩
 by_cases hlt:i<n
 ·obtain⟨g1,g2⟩:=go i σ H hlt p
  exact .inr ⟨g1,Pv (i+1),fun σ' H' p'=>⟨n-(i+1),by omega,rfl,hlt,p'⟩,fun x H2 y=>g2 x H2 y⟩
 ·have e:i=n:=by omega
  subst e
  exact .inl (stop σ H p)
section
variable {X:Cx}{k:Nat}{f:Addr}{fd:FuncData}{ps:List Str}{sp:Sp}{CX:CXT}{E:XK}{x:Str}{p pos:Pos}{e:Expr}{es:List Expr}{t:TA}{i:Nat}
end
section
variable {X:Cx}
end
end L2
set_option maxHeartbeats 1000000
namespace L2
open PySem PySem.Spec PyProof.Rows
section
variable {X:Cx}{e:Expr}{te:TE}{pos p2 p3 p4:Pos}{j:Nat}
end
end L2
set_option maxHeartbeats 4000000
namespace L2
open PySem PyProof.Rows
section
variable {prog:Program}{w:World}{A:Around}{E:Value→Shared→Prop}{s:Shared}
end
end L2
namespace L2
open PySem PySem.Spec PyProof.Rows
section
variable {α:Type}{R S:α→V→Prop}
end
def kd (t:Bool):Str:=if t then "text" else "number"
section
variable {X:Cx}
end
end L2
set_option maxHeartbeats 2000000
namespace L2
open PySem PyProof.Rows
section
variable {prog:Program}{w:World}{A:Around}{E:Value→Shared→Prop}{s:Shared}
end
section
variable {prog:Program}{w:World}{A:Around}{R:Result→Shared→Prop}{I:Addr}{fp wr:List Addr}{G:Array GenState→Array GenState→Prop}{n:Nat}{P:Nat→Value→Prop}{St:Nat→Shared→Prop}
end
end L2
namespace L2
open PySem PySem.Spec PyProof.Rows
section
variable {prog:Program}{w:World}{A:Around}{E:Value→Shared→Prop}{s:Shared}
end
section
variable {X:Cx}
end
end L2
set_option maxHeartbeats 1000000
namespace L2
open PySem PySem.Spec PyProof.Rows
section
variable {X:Cx}
def rCat0 (K:PySem.W.Frag):R2:=fun x y H Q=>∃ a b xs ys,x=.ref a∧y=.ref b∧SqT K H a xs∧SqT K H b ys∧xs.length+ys.length≤sizeLine ∧
 (xs=[]→Q (.ref b) H)∧(xs≠[]→ys=[]→Q (.ref a) H)∧(xs≠[]→ys≠[]→∀ p,H p=none→Q (.ref p) (upd H p (.tup (xs++ys))))
theorem op_cat0:OpR X (binaryOp .Add) (rCat0 X.K):=by
 intro pins s σ H x y v u Q I rx ry h
 obtain⟨a,b,xs,ys,rfl,rfl,ha,hb,hz,q0,q1,q2⟩:=h
 by_cases hx:xs=[]
 ·cases rx
  cases ry
  obtain⟨its,r1,p1,_⟩:=I.tuple ha
  obtain⟨its2,r2,p2,_⟩:=I.tuple hb
  have e:its=[]:=r1.nil_iff.mpr hx
  obtain⟨⟨cls,dd,data,sl⟩,ho,hc,n,hd⟩:=id p1
  obtain⟨⟨cls2,dd2,data2,sl2⟩,ho2,hc2,n2,hd2⟩:=id p2
  simp only at hc hd hc2 hd2
  subst hc hd hc2 hd2
  exact concat_meets ⟨_,ho,rfl⟩ ⟨_,ho2,rfl⟩ noFill_tuple_add seq_tuple_add PySem.F.slot_tuple_add PySem.F.entry_tuple_add (PySem.F.args_tuple_add_2 _ _)
   (tuple_addW0 a b its.toArray its2.toArray n n2 dd dd2 sl sl2 (by simp [e])) ⟨ho,ho2,⟨.ref b,H,I,rfl,q0 hx⟩⟩
 ·exact op_catT pins s σ H _ _ v u Q I rx ry ⟨a,b,xs,ys,rfl,rfl,ha,hb,hx,hz,q1 hx,q2 hx⟩
end
end L2
namespace L2
open PySem PySem.Spec PyProof.Rows
section
variable {X:Cx}{pins:List (Addr×Obj)}{σ:St}{H:Hp}{s:Shared}
theorem Inv.freezeD {p:Addr}{kvs:List (Key×V)} (I:Inv X pins σ H s) (h:H p=some (.dK kvs)):∃ od,Inv X pins σ (upd H p (.frz od (.dK kvs))) s:=by
 obtain⟨z,n,vs,r,ob,es,ep,e,rest⟩:=dk_of I.hok h
 refine⟨ob,I.write (x:=p) (e:=p) (h':=s.heap) (t':=s.toks) (by rw[h];trivial) (.inl rfl) (fun _ _ _ q=>q) ⟨ob,e⟩ ⟨e,z,n,vs,r,ob,es,ep,e,rest⟩⟩
theorem PE.post {e:Expr}{t t':TE} (h:PE X e t) (f:∀ σ H Q,t' σ H Q→t σ H fun v H1=>∀ pins s,Inv X pins σ H1 s→∃ H2,Inv X pins σ H2 s∧Q v H2):PE X e t':=fun pins s σ H Q I w=>
 thn (h pins s σ H _ I (f _ _ _ w)) fun u s1 ⟨v,H1,I1,r,q⟩=>by
  obtain⟨H2,I2,q2⟩:=q pins s1 I1
  exact⟨v,H2,I2,r,q2⟩
def Itd (a:Addr) (od:Obj):It:=
 ⟨fun i H=>∃ kvs kv,H a=some (.frz od (.dK kvs))∧kvs[i]?=some kv,fun i H x H'=>H'=H∧∀ kvs,H a=some (.frz od (.dK kvs))→∃ kv,kvs[i]?=some kv∧x=kV kv.1,fun i H=>∃ kvs,H a=some (.frz od (.dK kvs))∧kvs.length≤i⟩
theorem kv_at {kvs:List (Key×V)}{vs:List (Key×Value)} (h:KV kvs vs){i:Nat}{kv:Key×V} (e:kvs[i]?=some kv):∃ u,vs[i]?=some (kv.1,u):=by
 unfold KV at h
 induction h generalizing i with
 | nil=>simp at e
 | @cons p q xs ys h1 h2 ih=>
  cases i with
  | zero=>
   simp only[List.getElem?_cons_zero,Option.some.injEq] at e
   subst e
   exact⟨q.2,by rw[h1.1];rfl⟩
  | succ i=>exact ih (by simpa using e)
theorem frz_at {a:Addr}{od:Obj}{kvs:List (Key×V)}{es:Array DictEntry}{ep:Nat} (I:Inv X pins σ H s) (h:H a=some (.frz od (.dK kvs))) (hd:od.data=.dict es ep):∃ vs,KV kvs vs∧s.heap.DictAt (mixKind X.prog X.w) a vs ep∧es.size=vs.length:=by
 obtain⟨e,z,n,vs,r,ob,es',ep',e',c,d,q1,q2,q3⟩:=I.hok a _ h
 rw[e] at e'
 cases e'
 rw[hd] at d
 cases d
 exact⟨vs,r,⟨od,es,e,c,hd,q1,q2,q3⟩,by rw[← q2.length];simp⟩
theorem key_rel {k:Key}{v:Value} (h:keyIs k v=true):RelV (kV k) v:=by
 rcases zao h with ⟨i,t,rfl,rfl⟩ | ⟨x,t,rfl,rfl⟩
 ·exact⟨t,rfl⟩
 ·exact⟨t,rfl⟩
theorem turn_dict {P:Program}{w:World}{K:PySem.W.Frag}{tg:Expr} (a it:Addr) (od:Obj) (es:Array DictEntry) (ep:Nat) (hd:od.data=.dict es ep):Turn P w K tg (Itd a od) [it] it (fun i h=>h.IsKeyIter it a i es.size ep) where
 mem:=by simp
 obj:=fun i h st b hb=>by
  have e:b=it:=by simpa using hb
  subst e
  obtain⟨o,e,c,d⟩:=st
  exact⟨o,e,fun v z=>by rw[d] at z;cases z⟩
 keep:=fun i h h' st k=>by
  obtain⟨o,e,c,d⟩:=st
  exact⟨o,k it (by simp) o e,c,d⟩
 item:=by
  intro X hP hw hK hc i pins s σ H E I hf st hg
  subst hP hw hK
  obtain⟨kvs,kv,hq,hx⟩:=hg
  obtain⟨vs,r,da,hsz⟩:=frz_at I hq hd
  obtain⟨u,hu⟩:=kv_at r hx
  obtain⟨f0,f1,f2,f3,f4,f5⟩:=hf it (by simp)
  rw[hsz] at st
  refine wpAny_pyNext_dict_item st da hu fun key h' hk st' sb=>?_
  have I1:Inv X pins σ H { s with heap:=h' }:=I.turned (t':=s.toks) (fun b o hb e=>(sb.2 b hb).trans e) f0 f1 f3 f4 f5
  obtain⟨o,e,c,d⟩:=id st'
  refine⟨key,rfl,go_of (s:={ s with heap:=h' }) e c d (by decide) ⟨kV kv.1,H,I1,key_rel hk,⟨rfl,fun ys hy=>?_⟩,by rw[hsz];exact st',fun b hb=>(hf b hb).1⟩⟩
  rw[hq] at hy
  cases hy
  exact⟨kv,hx,rfl⟩
 done:=by
  intro X hP hw hK hc i pins s σ H E I hf st hg
  subst hP hw hK
  obtain⟨kvs,hq,hx⟩:=hg
  obtain⟨vs,r,da,hsz⟩:=frz_at I hq hd
  obtain⟨f0,f1,f2,f3,f4,f5⟩:=hf it (by simp)
  have hl:=r.length
  rw[hsz] at st
  exact wpAny_pyNext_dict_end (I.ok.hd hc) st da (List.getElem?_eq_none (by omega)) fun h' eb=>⟨rfl,I.turned (t':=s.toks) (fun b o hb e=>eb b o hb e) f0 f1 f3 f4 f5⟩
 self:=fun A i s Q E st h=>by
  refine wpAny_pyIter_slot st.typeIs F.slot_dict_keyiterator_iter (wpAny_call_entry F.slot_dict_keyiterator_iter st.typeIs F.entry_dict_keyiterator_iter ?_ (F.args_dict_keyiterator_iter_1 _))
  show wpAny _ _ (ret (.ref it)) _ _ s
  exact wpAny_pure ⟨_,rfl,"dict_keyiterator",_,st.typeIs,F.slot_dict_keyiterator_next.lookup,h⟩
end
end L2
namespace L2
open PySem PySem.Spec PyProof.Rows
inductive PV where
 | non | bl (b:Bool) | int (i:Int) | str (x:Str) | tup (xs:List PV) | lst (xs:List PV) | dic (kvs:List (PV×PV)) | raw (v:V)
def DcAt (H:Hp) (a:Addr) (kws:List (V×V)):Prop:=∃ (kvs:List (Key×V)) (od:Obj),H a=some (.frz od (.dK kvs))∧kws=kvs.map fun kv=>(kV kv.1,kv.2)
mutual
inductive RV (K:PySem.W.Frag) (N:Addr→Prop) (H:Hp):PV→V→Prop where
 | non:RV K N H .non .non
 | bl (b:Bool):RV K N H (.bl b) (.bl b)
 | int (i:Int):RV K N H (.int i) (.int i)
 | str (x:Str):RV K N H (.str x) (.str x)
 | raw (a:Addr):RV K N H (.raw (.ref a)) (.ref a)
 | tup {a:Addr}{xs:List PV}{vs:List V}:SqT K H a vs→RVs K N H xs vs→RV K N H (.tup xs) (.ref a)
 | lst {a:Addr}{xs:List PV}{vs:List V}:¬ N a→H a=some (.lst vs)→RVs K N H xs vs→RV K N H (.lst xs) (.ref a)
 | dic {a:Addr}{kvs:List (PV×PV)}{kws:List (V×V)}:¬ N a→DcAt H a kws→RKs K N H kvs kws→RV K N H (.dic kvs) (.ref a)
inductive RVs (K:PySem.W.Frag) (N:Addr→Prop) (H:Hp):List PV→List V→Prop where
 | nil:RVs K N H [] []
 | cons {x:PV}{v:V}{xs:List PV}{vs:List V}:RV K N H x v→RVs K N H xs vs→RVs K N H (x::xs) (v::vs)
inductive RKs (K:PySem.W.Frag) (N:Addr→Prop) (H:Hp):List (PV×PV)→List (V×V)→Prop where
 | nil:RKs K N H [] []
 | cons {k x:PV}{l v:V}{xs:List (PV×PV)}{vs:List (V×V)}:RV K N H k l→RV K N H x v→RKs K N H xs vs→RKs K N H ((k,x)::xs) ((l,v)::vs)
end
section
variable {K:PySem.W.Frag}{N N':Addr→Prop}{H H':Hp}
structure KeepV (K:PySem.W.Frag) (N N':Addr→Prop) (H H':Hp):Prop where
 t:∀ a vs,SqT K H a vs→SqT K H' a vs
 l:∀ a o,¬ N a→H a=some o→¬ N' a∧H' a=some o
theorem RV.imp (k:KeepV K N N' H H'){x:PV}{v:V} (h:RV K N H x v):RV K N' H' x v:=by
 refine RV.rec (motive_1:=fun x v _=>RV K N' H' x v) (motive_2:=fun xs vs _=>RVs K N' H' xs vs) (motive_3:=fun xs vs _=>RKs K N' H' xs vs) .non .bl .int .str .raw
  (fun h _ r=>.tup (k.t _ _ h) r) (fun n h _ r=>.lst (k.l _ _ n h).1 (k.l _ _ n h).2 r) (fun n h _ r=>?_) .nil (fun _ _ r s=>.cons r s) .nil (fun _ _ _ a b r=>.cons a b r) h
 obtain⟨kvs,od,h1,rfl⟩:=h
 exact .dic (k.l _ _ n h1).1 ⟨kvs,od,(k.l _ _ n h1).2,rfl⟩ r
theorem RVs.imp (k:KeepV K N N' H H'){xs:List PV}{vs:List V} (h:RVs K N H xs vs):RVs K N' H' xs vs:=by
 induction vs generalizing xs with
 | nil=>cases h;exact .nil
 | cons v vs ih=>cases h with | cons h1 h2=>exact .cons (h1.imp k) (ih h2)
theorem RKs.imp (k:KeepV K N N' H H'){xs:List (PV×PV)}{vs:List (V×V)} (h:RKs K N H xs vs):RKs K N' H' xs vs:=by
 induction vs generalizing xs with
 | nil=>cases h;exact .nil
 | cons v vs ih=>cases h with | cons h1 h2 h3=>exact .cons (h1.imp k) (h2.imp k) (ih h3)
theorem RVs.len {xs:List PV}{vs:List V} (h:RVs K N H xs vs):xs.length=vs.length:=by
 induction vs generalizing xs with
 | nil=>cases h;rfl
 | cons v vs ih=>cases h with | cons h1 h2=>rw[List.length_cons,List.length_cons,ih h2]
theorem RVs.app {xs ys:List PV}{vs us:List V} (h:RVs K N H xs vs) (g:RVs K N H ys us):RVs K N H (xs++ys) (vs++us):=by
 induction vs generalizing xs with
 | nil=>cases h;exact g
 | cons v vs ih=>cases h with | cons h1 h2=>exact .cons h1 (ih h2)
theorem RVs.at {xs:List PV}{vs:List V} (h:RVs K N H xs vs){i:Nat}{x:PV} (e:xs[i]?=some x):∃ v,vs[i]?=some v∧RV K N H x v:=by
 induction vs generalizing xs i with
 | nil=>cases h;simp at e
 | cons v vs ih=>
  cases h with
  | cons h1 h2=>
   cases i with
   | zero=>cases e;exact⟨v,rfl,h1⟩
   | succ i=>exact ih h2 (by simpa using e)
theorem RVs.at' {xs:List PV}{vs:List V} (h:RVs K N H xs vs){i:Nat}{v:V} (e:vs[i]?=some v):∃ x,xs[i]?=some x∧RV K N H x v:=by
 induction vs generalizing xs i with
 | nil=>simp at e
 | cons u vs ih=>
  cases h with
  | cons h1 h2=>
   cases i with
   | zero=>cases e;exact⟨_,rfl,h1⟩
   | succ i=>exact ih h2 (by simpa using e)
theorem RVs.take {xs:List PV}{vs:List V} (h:RVs K N H xs vs) (n:Nat):RVs K N H (xs.take n) (vs.take n):=by
 induction vs generalizing xs n with
 | nil=>cases h;simpa using RVs.nil
 | cons u vs ih=>
  cases h with
  | cons h1 h2=>
   cases n with
   | zero=>exact .nil
   | succ n=>exact .cons h1 (ih h2 n)
theorem RVs.drop {xs:List PV}{vs:List V} (h:RVs K N H xs vs) (n:Nat):RVs K N H (xs.drop n) (vs.drop n):=by
 induction vs generalizing xs n with
 | nil=>cases h;simpa using RVs.nil
 | cons u vs ih=>
  cases h with
  | cons h1 h2=>
   cases n with
   | zero=>exact .cons h1 h2
   | succ n=>exact ih h2 n
theorem RVs.rev {xs:List PV}{vs:List V} (h:RVs K N H xs vs):RVs K N H xs.reverse vs.reverse:=by
 induction vs generalizing xs with
 | nil=>cases h;exact .nil
 | cons u vs ih=>
  cases h with
  | cons h1 h2=>rw[List.reverse_cons,List.reverse_cons];exact(ih h2).app (.cons h1 .nil)
theorem RVs.set {xs:List PV}{vs:List V} (h:RVs K N H xs vs) (i:Nat){x:PV}{v:V} (r:RV K N H x v):RVs K N H (xs.set i x) (vs.set i v):=by
 induction vs generalizing xs i with
 | nil=>cases h;exact .nil
 | cons u vs ih=>
  cases h with
  | cons h1 h2=>
   cases i with
   | zero=>exact .cons r h2
   | succ i=>exact .cons h1 (ih h2 i)
end
inductive OC where
 | lst (xs:List PV) | dic (kvs:List (PV×PV)) | ins (C dx:Addr) (fs:List (Str×PV))
def OC.pv:OC→PV
 | .lst xs=>.lst xs
 | .dic kvs=>.dic kvs
 | .ins _ _ _=>.raw .non
def OC.Ld:OC→Prop
 | .ins _ _ _=>False
 | _=>True
def RFs (K:PySem.W.Frag) (N:Addr→Prop) (H:Hp) (fs:List (Str×PV)) (ws:List (Str×V)):Prop:=fs.map Prod.fst=ws.map Prod.fst∧RVs K N H (fs.map Prod.snd) (ws.map Prod.snd)
inductive Sl where
 | val (x:PV) | own (a:Addr) (c:OC) | peek (a:Addr) (c:OC)
structure SSt where
 d:Addr
 a:Addr
 n:Nat
 b:Bs
structure AS where
 B:Addr→Prop
 rho:List (Option Sl)
 S:Option SSt
def Own (rho:List (Option Sl)) (a:Addr):Prop:=∃ (i:Nat) (c:OC),rho[i]?=some (some (.own a c))
def AN (A:AS) (a:Addr):Prop:=A.B a∨Own A.rho a
def Mt (A:AS) (a:Addr):Prop:=Own A.rho a∨∃ st,A.S=some st∧st.d=a
def OcAt (K:PySem.W.Frag) (N:Addr→Prop) (H:Hp) (a:Addr):OC→Prop
 | .lst xs=>∃ vs,H a=some (.lst vs)∧RVs K N H xs vs
 | .dic kvs=>∃ kws:List (Key×V),H a=some (.dK kws)∧RKs K N H kvs (kws.map fun kv=>(kV kv.1,kv.2))
 | .ins C dx fs=>∃ ws:List (Str×V),H a=some (.ins C dx ws)∧RFs K N H fs ws
def SlAt (K:PySem.W.Frag) (A:AS) (H:Hp):Sl→V→Prop
 | .val x,v=>RV K (AN A) H x v
 | .own a c,v=>v=.ref a∧¬ A.B a∧OcAt K (AN A) H a c
 | .peek a c,v=>v=.ref a∧A.B a∧OcAt K (AN A) H a c
def ScrF (K:PySem.W.Frag) (H:Hp) (a:Addr):Prop:=∃ ns:List Int,ns.length≤63∧((∃ o:Obj,H a=some (.frz o (.lst (ns.map V.int))))∨∃ (o:Obj) (its:Array Value) (n:Nat),K.lookup a=some o∧o.cls=.type "list"∧o.dict=none∧o.data=.seq its n∧its.size≤sizeLine∧Vals (ns.map V.int) its.toList)
theorem ScrF.scr {K:PySem.W.Frag}{H:Hp}{a:Addr} (h:ScrF K H a):Scr K H a:=by
 obtain⟨ns,l,⟨o,h⟩ | h⟩:=h
 ·exact⟨ns,.inl (.inr ⟨o,h⟩),l⟩
 ·exact⟨ns,.inr h,l⟩
theorem ScrF.keepF {K:PySem.W.Frag}{H H':Hp}{a:Addr} (h:ScrF K H a) (f:∀ o u,H a=some (.frz o u)→H' a=some (.frz o u)):ScrF K H' a:=by
 obtain⟨ns,l,⟨o,h⟩ | h⟩:=h
 ·exact⟨ns,l,.inl ⟨o,f _ _ h⟩⟩
 ·exact⟨ns,l,.inr h⟩
theorem ScrF.keep {K:PySem.W.Frag}{H H':Hp}{a:Addr} (h:ScrF K H a) (f:∀ o,H a=some o→H' a=some o):ScrF K H' a:=h.keepF fun _ _=>f _
theorem StAt.upd {H:Hp}{d a p:Addr}{n:Nat}{B:Bs}{o:HO} (h:StAt H d a n B) (np:p≠d) (nt:∀ ps,H p≠some (.tbl ps)):StAt (L2.upd H p o) d a n B:=by
 obtain⟨t,l,w,e,r⟩:=h.ex
 exact⟨⟨t,l,w,by rw[zac np.symm];exact e,r⟩,fun T o z=>⟨by rw[zac fun y=>nt _ (y▸(h.tb T o z).1)];exact(h.tb T o z).1,(h.tb T o z).2⟩⟩
structure Rep (K:PySem.W.Frag) (H:Hp) (σ:St) (A:AS):Prop where
 len:σ.length=A.rho.length
 sl:∀ (i:Nat) (s:Sl),A.rho[i]?=some (some s)→∃ v,σ[i]?=some (some v)∧SlAt K A H s v
 dom:∀ a,A.B a→H a≠none
 nd:∀ (i j:Nat) (a:Addr) (c c':OC),A.rho[i]?=some (some (.own a c))→A.rho[j]?=some (some (.own a c'))→i=j
 st:∀ st,A.S=some st→A.B st.d∧StAt H st.d st.a st.n st.b∧ScrF K H st.a
 pk:∀ (i:Nat) (a:Addr) (c:OC) (st:SSt),A.rho[i]?=some (some (.peek a c))→A.S=some st→a≠st.d
structure Stp (A:AS) (H:Hp) (A1:AS) (H1:Hp):Prop where
 fr:∀ a o,H a=some o→¬ Mt A a→H1 a=some o
 ow:∀ a,Own A1.rho a→Own A.rho a∨H a=none
 b:A1.B=A.B
 dm:∀ a,H a≠none→H1 a≠none
 sd:A1.S.map SSt.d=A.S.map SSt.d
section
variable {K:PySem.W.Frag}{H H1 H2:Hp}{σ:St}{A A1 A2:AS}
theorem Stp.refl (A:AS) (H:Hp):Stp A H A H:=⟨fun _ _ h _=>h,fun _ h=>.inl h,rfl,fun _ h=>h,rfl⟩
theorem sd_d {S S1:Option SSt} (e:S1.map SSt.d=S.map SSt.d){a:Addr} (h:∃ st,S1=some st∧st.d=a):∃ st,S=some st∧st.d=a:=by
 obtain⟨st,rfl,rfl⟩:=h
 cases S with
 | none=>cases e
 | some t=>exact⟨t,rfl,by simpa using e.symm⟩
theorem Stp.mt (s:Stp A H A1 H1){a:Addr} (h:Mt A1 a) (hd:H a≠none):Mt A a:=by
 rcases h with h | h
 ·rcases s.ow a h with z | z
  ·exact .inl z
  ·exact absurd z hd
 ·exact .inr (sd_d s.sd h)
theorem zay {α:Type}{o:Option α}{x:α} (h:o=some x):o≠none:=by rw[h];intro z;cases z
theorem Stp.trans (s:Stp A H A1 H1) (t:Stp A1 H1 A2 H2):Stp A H A2 H2 where
 fr:=fun a o h n=>t.fr a o (s.fr a o h n) fun m=>n (s.mt m (zay h))
 ow:=fun a h=>by
  rcases t.ow a h with z | z
  ·exact s.ow a z
  ·refine .inr ?_
   cases e:H a with
   | none=>rfl
   | some o=>exact absurd z (s.dm a (zay e))
 b:=t.b.trans s.b
 dm:=fun a h=>t.dm a (s.dm a h)
 sd:=t.sd.trans s.sd
theorem Stp.same (A:AS) (s:Same H H1):Stp A H A H1 where
 fr:=fun a o h _=>s a o h
 ow:=fun _ h=>.inl h
 b:=rfl
 dm:=fun a h=>by
  cases e:H a with
  | none=>exact absurd e h
  | some o=>exact zay (s a o e)
 sd:=rfl
theorem Rep.own_at (R:Rep K H σ A){a:Addr} (h:Own A.rho a):(∃ vs,H a=some (.lst vs))∨(∃ kvs,H a=some (.dK kvs))∨∃ C dx ws,H a=some (.ins C dx ws):=by
 obtain⟨i,c,h⟩:=h
 obtain⟨v,_,_,_,o⟩:=R.sl i _ h
 cases c with
 | lst xs=>obtain⟨vs,h,_⟩:=o;exact .inl ⟨vs,h⟩
 | dic xs=>obtain⟨vs,h,_⟩:=o;exact .inr (.inl ⟨vs,h⟩)
 | ins C dx xs=>obtain⟨vs,h,_⟩:=o;exact .inr (.inr ⟨_,_,vs,h⟩)
theorem Rep.mt_at (R:Rep K H σ A){a:Addr} (h:Mt A a):(∃ vs,H a=some (.lst vs))∨(∃ kvs,H a=some (.dK kvs))∨∃ C dx ws,H a=some (.ins C dx ws):=by
 rcases h with h | ⟨st,h,rfl⟩
 ·exact R.own_at h
 ·exact .inr (.inl (R.st st h).2.1.dk)
theorem Rep.mt_an (R:Rep K H σ A){a:Addr} (h:Mt A a):AN A a:=by
 rcases h with h | ⟨st,h,rfl⟩
 ·exact .inr h
 ·exact .inl (R.st st h).1
theorem zdt {a:Addr}{u:HO}{n:Prop} (f:∀ o,H a=some o→¬ n→H1 a=some o) (hn:¬ n) (h:Rd H a u):Rd H1 a u:=by
 rcases h with h | ⟨o,h⟩
 ·exact .inl (f _ h hn)
 ·exact .inr ⟨o,f _ h hn⟩
theorem Rep.keep (R:Rep K H σ A) (s:Stp A H A1 H1):KeepV K (AN A) (AN A1) H H1:=by
 have nan:∀ a,¬ AN A a→H a≠none→¬ AN A1 a:=by
  rintro a n hd (h | h)
  ·exact n (.inl (by rw[← s.b];exact h))
  ·rcases s.ow a h with z | z
   ·exact n (.inr z)
   ·exact hd z
 refine⟨fun a vs h=>?_,fun a o n h=>⟨nan a n (zay h),s.fr a o h fun m=>n (R.mt_an m)⟩⟩
 rcases h with h | h
 ·refine .inl (zdt (n:=Mt A a) (fun o e m=>s.fr a o e m) (fun m=>?_) h)
  rcases R.mt_at m with ⟨z,e⟩ | ⟨z,e⟩ | ⟨_,_,z,e⟩
  ·rcases h with h | ⟨o,h⟩<;>(rw[e] at h;cases h)
  ·rcases h with h | ⟨o,h⟩<;>(rw[e] at h;cases h)
  ·rcases h with h | ⟨o,h⟩<;>(rw[e] at h;cases h)
 ·exact .inr h
theorem OcAt.imp {N N':Addr→Prop} (k:KeepV K N N' H H1){a:Addr}{c:OC} (e:∀ o,H a=some o→H1 a=some o) (h:OcAt K N H a c):OcAt K N' H1 a c:=by
 cases c with
 | lst xs=>obtain⟨vs,h1,h2⟩:=h;exact⟨vs,e _ h1,h2.imp k⟩
 | dic xs=>obtain⟨vs,h1,h2⟩:=h;exact⟨vs,e _ h1,h2.imp k⟩
 | ins C dx xs=>obtain⟨vs,h1,h2⟩:=h;exact⟨vs,e _ h1,h2.1,h2.2.imp k⟩
theorem Rep.same (R:Rep K H σ A) (s:Same H H1):Rep K H1 σ A where
 len:=R.len
 sl:=fun i t h=>by
  obtain⟨v,e,q⟩:=R.sl i t h
  have k:=R.keep (Stp.same A s)
  refine⟨v,e,?_⟩
  cases t with
  | val x=>exact q.imp k
  | own a c=>exact⟨q.1,q.2.1,q.2.2.imp k fun o=>s a o⟩
  | peek a c=>exact⟨q.1,q.2.1,q.2.2.imp k fun o=>s a o⟩
 dom:=fun a h=>(Stp.same A s).dm a (R.dom a h)
 nd:=R.nd
 st:=fun st h=>by
  obtain⟨h1,h2,h3⟩:=R.st st h
  exact⟨h1,h2.same s,h3.keep fun o=>s _ o⟩
 pk:=R.pk
end
end L2
namespace L2
open PySem PySem.Spec PyProof.Rows
theorem PE.mono {X:Cx}{e:Expr}{t t':TE} (h:PE X e t) (f:∀ σ H Q,t' σ H Q→t σ H Q):PE X e t':=fun pins s σ H Q I w=>h pins s σ H Q I (f _ _ _ w)
theorem PT.mono {X:Cx}{e:Expr}{t t':TT} (h:PT X e t) (f:∀ σ H Q,t' σ H Q→t σ H Q):PT X e t':=fun pins s σ H Q I w=>h pins s σ H Q I (f _ _ _ w)
theorem PW.mono {X:Cx}{e:Expr}{t t':TT} (h:PW X e t) (f:∀ σ H Q,t' σ H Q→t σ H Q):PW X e t':=fun wh pins s σ H Q I w=>h wh pins s σ H Q I (f _ _ _ w)
theorem PA.mono {X:Cx}{e:List Expr}{t t':TA} (h:PA X e t) (f:∀ σ H Q,t' σ H Q→t σ H Q):PA X e t':=fun pos pins s σ H Q I w=>h pos pins s σ H Q I (f _ _ _ w)
theorem PS.mono {X:Cx}{e:Stmt}{t t':TS} (h:PS X e t) (f:∀ D σ H,t' D σ H→t D σ H):PS X e t':=fun pins s σ H D I w=>h pins s σ H D I (f _ _ _ w)
theorem PSs.mono {X:Cx}{e:List Stmt}{t t':TS} (h:PSs X e t) (f:∀ D σ H,t' D σ H→t D σ H):PSs X e t':=fun pins s σ H D I w=>h pins s σ H D I (f _ _ _ w)
theorem PI.mono {X:Cx}{tg e:Expr}{t t':TI} (h:PI X tg e t) (f:∀ σ H Q,t' σ H Q→t σ H Q):PI X tg e t':=fun pins s σ H Q I w=>h pins s σ H Q I (f _ _ _ w)
abbrev UE:=AS→(PV→AS→Prop)→Prop
abbrev UA:=AS→(List PV→AS→Prop)→Prop
abbrev UT:=AS→(Bool→AS→Prop)→Prop
def RVq (K:PySem.W.Frag) (A:AS) (H:Hp) (r:PV) (v:V):Prop:=
 RV K (AN A) H r v∨∃ (i:Nat) (a:Addr) (c:OC),((A.rho[i]?=some (some (.own a c))∨A.rho[i]?=some (some (.peek a c)))∧c.Ld)∧r=c.pv∧v=.ref a
section
variable {K:PySem.W.Frag}{H H1 H2:Hp}{σ:St}{A A1 A2:AS}
theorem RVq.step {r:PV}{v:V} (R:Rep K H σ A) (h:RVq K A H r v) (s:Stp A H A1 H1) (e:A1.rho=A.rho):RVq K A1 H1 r v:=by
 rcases h with h | h
 ·exact .inl (h.imp (R.keep s))
 ·exact .inr (by rw[e];exact h)
theorem RVq.oc {v:V}{c:OC} (R:Rep K H σ A) (h:RVq K A H c.pv v):∃ a,v=.ref a∧(match c with
  | .lst xs=>∃ vs,H a=some (.lst vs)∧RVs K (AN A) H xs vs
  | .dic kvs=>∃ kws:List (Key×V),Rd H a (.dK kws)∧RKs K (AN A) H kvs (kws.map fun kv=>(kV kv.1,kv.2))
  | .ins _ _ _=>True):=by
 rcases h with h | ⟨i,a,c',h,e,rfl⟩
 ·cases c with
  | lst xs=>cases h with | lst _ h1 h2=>exact⟨_,rfl,_,h1,h2⟩
  | dic kvs=>cases h with | dic _ h1 h2=>obtain⟨kvs,od,h1,rfl⟩:=h1;exact⟨_,rfl,_,.inr ⟨od,h1⟩,h2⟩
  | ins _ _ _=>cases h
 ·have o:OcAt K (AN A) H a c':=by
   rcases h.1 with h | h
   ·obtain⟨_,_,_,_,o⟩:=R.sl i _ h;exact o
   ·obtain⟨_,_,_,_,o⟩:=R.sl i _ h;exact o
  refine⟨a,rfl,?_⟩
  cases c with
  | lst xs=>
   cases c' with
   | lst ys=>cases e;obtain⟨vs,h1,h2⟩:=o;exact⟨vs,h1,h2⟩
   | dic _=>cases e
   | ins _ _ _=>cases e
  | dic xs=>
   cases c' with
   | lst ys=>cases e
   | dic _=>cases e;obtain⟨vs,h1,h2⟩:=o;exact⟨vs,.inl h1,h2⟩
   | ins _ _ _=>cases e
  | ins _ _ _=>trivial
theorem RVq.lst {v:V}{xs:List PV} (R:Rep K H σ A) (h:RVq K A H (.lst xs) v):∃ a vs,v=.ref a∧H a=some (.lst vs)∧RVs K (AN A) H xs vs:=by
 obtain⟨a,e,vs,h1,h2⟩:=RVq.oc (c:=.lst xs) R h
 exact⟨a,vs,e,h1,h2⟩
theorem RVq.dic {v:V}{kvs:List (PV×PV)} (R:Rep K H σ A) (h:RVq K A H (.dic kvs) v):∃ a kws,v=.ref a∧Rd H a (.dK kws)∧RKs K (AN A) H kvs (kws.map fun kv=>(kV kv.1,kv.2)):=by
 obtain⟨a,e,vs,h1,h2⟩:=RVq.oc (c:=.dic kvs) R h
 exact⟨a,vs,e,h1,h2⟩
theorem RVq.rv {v:V}{r:PV} (h:RVq K A H r v) (hn:∀ c:OC,r≠c.pv):RV K (AN A) H r v:=by
 rcases h with h | ⟨_,_,c,_,e,_⟩
 ·exact h
 ·exact absurd e (hn c)
theorem RVq.tup {v:V}{xs:List PV} (h:RVq K A H (.tup xs) v):∃ a vs,v=.ref a∧SqT K H a vs∧RVs K (AN A) H xs vs:=by
 have:=h.rv (by intro c;cases c<;>(intro z;cases z))
 cases this with | tup h1 h2=>exact⟨_,_,rfl,h1,h2⟩
theorem RVq.int {v:V}{i:Int} (h:RVq K A H (.int i) v):v=.int i:=by
 have:=h.rv (by intro c;cases c<;>(intro z;cases z))
 cases this;rfl
theorem RVq.bl {v:V}{i:Bool} (h:RVq K A H (.bl i) v):v=.bl i:=by
 have:=h.rv (by intro c;cases c<;>(intro z;cases z))
 cases this;rfl
theorem RVq.str {v:V}{i:Str} (h:RVq K A H (.str i) v):v=.str i:=by
 have:=h.rv (by intro c;cases c<;>(intro z;cases z))
 cases this;rfl
theorem RVq.non {v:V} (h:RVq K A H .non v):v=.non:=by
 have:=h.rv (by intro c;cases c<;>(intro z;cases z))
 cases this;rfl
end
def liftV (K:PySem.W.Frag) (u:UE):TE:=fun σ H Q=>∃ A P,Rep K H σ A∧u A P∧∀ r A1 v H1,P r A1→Rep K H1 σ A1→Stp A H A1 H1→RV K (AN A1) H1 r v→Q v H1
def liftQ (K:PySem.W.Frag) (u:UE):TE:=fun σ H Q=>∃ A P,Rep K H σ A∧u A P∧∀ r A1 v H1,P r A1→Rep K H1 σ A1→Stp A H A1 H1→RVq K A1 H1 r v→Q v H1
def FrV (K:PySem.W.Frag) (N:Addr→Prop) (H0 H1:Hp) (r:PV) (v:V):Prop:=∃ p c,r=OC.pv c∧v=.ref p∧H0 p=none∧Same H0 H1∧(match c with
  | .lst xs=>∃ vs,H1 p=some (.lst vs)∧RVs K N H0 xs vs
  | .dic kvs=>∃ kws:List (Key×V),H1 p=some (.dK kws)∧RKs K N H0 kvs (kws.map fun kv=>(kV kv.1,kv.2))
  | .ins _ _ _=>False)
def liftF (K:PySem.W.Frag) (u:UE):TE:=fun σ H Q=>∃ A P,Rep K H σ A∧u A P∧∀ r A1 v H0 H1,P r A1→Rep K H0 σ A1→Stp A H A1 H0→FrV K (AN A1) H0 H1 r v→Q v H1
def liftT (K:PySem.W.Frag) (u:UT):TT:=fun σ H Q=>∃ A P,Rep K H σ A∧u A P∧∀ b A1 H1,P b A1→Rep K H1 σ A1→Stp A H A1 H1→Q b H1
def liftA (K:PySem.W.Frag) (u:UA):TA:=fun σ H Q=>∃ A P,Rep K H σ A∧u A P∧∀ rs A1 vs H1,P rs A1→Rep K H1 σ A1→Stp A H A1 H1→RVs K (AN A1) H1 rs vs→Q vs H1
section
variable {X:Cx}{K:PySem.W.Frag}{e:Expr}{u:UE}{pos:Pos}
theorem Rep.new {H:Hp}{σ:St}{A:AS}{p:Addr} (R:Rep K H σ A) (hp:H p=none):¬ AN A p:=by
 rintro(h | h)
 ·exact R.dom p h hp
 ·rcases R.own_at h with ⟨z,e⟩ | ⟨z,e⟩ | ⟨_,_,z,e⟩<;>(rw[e] at hp;cases hp)
theorem FrV.same {N:Addr→Prop}{H0 H1:Hp}{r:PV}{v:V} (f:FrV K N H0 H1 r v):Same H0 H1:=by
 obtain⟨_,_,_,_,_,s,_⟩:=f
 exact s
theorem zan {N:Addr→Prop}{H0 H1:Hp} (s:Same H0 H1):KeepV K N N H0 H1:=⟨fun a vs h=>by
  rcases h with (h | ⟨o,h⟩) | h
  ·exact .inl (.inl (s _ _ h))
  ·exact .inl (.inr ⟨o,s _ _ h⟩)
  ·exact .inr h,fun a o n h=>⟨n,s a o h⟩⟩
theorem FrV.rvL {N:Addr→Prop}{H0 H1:Hp}{xs:List PV}{v:V} (dm:∀ p,H0 p=none→¬ N p) (f:FrV K N H0 H1 (.lst xs) v):RV K N H1 (.lst xs) v:=by
 obtain⟨p,c,e,rfl,hp,s,h⟩:=f
 cases c with
 | lst ys=>cases e;obtain⟨vs,h1,h2⟩:=h;exact .lst (dm p hp) h1 (h2.imp (zan s))
 | dic ys=>cases e
 | ins _ _ _=>exact h.elim
theorem FrV.fix {pins:List (Addr×Obj)}{σ:St}{s:Shared}{N:Addr→Prop}{H0 H1:Hp}{r:PV}{v:V} (dm:∀ p,H0 p=none→¬ N p) (f:FrV K N H0 H1 r v) (I:Inv X pins σ H1 s):∃ H2,Inv X pins σ H2 s∧Same H0 H2∧RV K N H2 r v:=by
 obtain⟨p,c,rfl,rfl,hp,sm,h⟩:=f
 cases c with
 | lst xs=>obtain⟨vs,h1,h2⟩:=h;exact⟨H1,I,sm,.lst (dm p hp) h1 (h2.imp (zan sm))⟩
 | dic xs=>
  obtain⟨vs,h1,h2⟩:=h
  obtain⟨od,I2⟩:=I.freezeD h1
  have s2:Same H0 (upd H1 p (.frz od (.dK vs))):=fun b o e=>by
   rw[zac (zae e hp)]
   exact sm b o e
  exact⟨_,I2,s2,.dic (dm p hp) ⟨vs,od,zab,rfl⟩ (h2.imp (zan s2))⟩
 | ins _ _ _=>exact h.elim
theorem vf (h:PE X e (liftF K u)):PE X e (liftV K u):=h.post fun σ H Q ⟨A,P,R,h,c⟩=>⟨A,P,R,h,fun r A1 v H0 H1 p R0 S0 f pins s I=>by
 obtain⟨H2,I2,s2,rv⟩:=f.fix (fun _=>R0.new) I
 exact⟨H2,I2,c r A1 v H2 p (R0.same s2) (S0.trans (Stp.same A1 s2)) rv⟩⟩
theorem qv (h:PE X e (liftV K u)):PE X e (liftQ K u):=h.mono fun σ H Q ⟨A,P,R,h,c⟩=>⟨A,P,R,h,fun r A1 v H1 p R1 S1 rv=>c r A1 v H1 p R1 S1 (.inl rv)⟩
theorem qf (h:PE X e (liftF K u)):PE X e (liftQ K u):=qv (vf h)
def frz (A:AS) (i:Nat) (c:OC):AS:={ A with rho:=A.rho.set i (some (.val c.pv)) }
def uVar (i:Nat):UE:=fun A Q=>match A.rho[i]? with
 | some (some (.val x))=>Q x A
 | some (some (.own _ (.lst xs)))=>Q (.lst xs) (frz A i (.lst xs))
 | some (some (.own _ (.dic xs)))=>Q (.dic xs) (frz A i (.dic xs))
 | _=>False
def uPk (i:Nat):UE:=fun A Q=>match A.rho[i]? with
 | some (some (.val x))=>Q x A
 | some (some (.own _ (.lst xs)))=>Q (.lst xs) A
 | some (some (.own _ (.dic xs)))=>Q (.dic xs) A
 | some (some (.peek _ (.lst xs)))=>Q (.lst xs) A
 | some (some (.peek _ (.dic xs)))=>Q (.dic xs) A
 | _=>False
theorem zaj {α:Type}{l:List α}{i j:Nat}{a b:α} (h:(l.set i a)[j]?=some b):(i=j∧b=a)∨(i≠j∧l[j]?=some b):=by
 rw[List.getElem?_set] at h
 by_cases e:i=j
 ·rw[if_pos e] at h
  split at h
  ·exact .inl ⟨e,(Option.some.inj h).symm⟩
  ·cases h
 ·rw[if_neg e] at h
  exact .inr ⟨e,h⟩
theorem Rep.freeze {H:Hp}{σ:St}{A:AS}{i:Nat}{a:Addr}{c:OC} (R:Rep K H σ A) (hi:A.rho[i]?=some (some (.own a c))){H2:Hp} (hb:∀ b,b≠a→H2 b=H b) (hc:match c with | .lst _=>H2=H | .dic _=>∃ kws od,H a=some (.dK kws)∧H2 a=some (.frz od (.dK kws)) | .ins _ _ _=>False):Rep K H2 σ (frz A i c)∧Stp A H (frz A i c) H2∧RV K (AN (frz A i c)) H2 c.pv (.ref a)∧σ[i]?=some (some (.ref a)):=by
 have oa:Own A.rho a:=⟨i,c,hi⟩
 have ow:∀ b,Own (frz A i c).rho b→Own A.rho b∧b≠a:=by
  rintro b ⟨j,c',h⟩
  rcases zaj h with ⟨_,z⟩ | ⟨n,z⟩
  ·cases z
  ·exact⟨⟨j,c',z⟩,fun e=>n (by subst e;exact R.nd i j _ _ _ hi z)⟩
 have an:∀ b,AN (frz A i c) b→AN A b:=fun b h=>h.elim .inl fun z=>.inr (ow b z).1
 have kp:KeepV K (AN A) (AN (frz A i c)) H H2:=by
  refine⟨fun b vs h=>?_,fun b o n h=>⟨fun z=>n (an _ z),by rw[hb b fun e=>n (by rw[e];exact .inr oa)];exact h⟩⟩
  rcases h with h | h
  ·by_cases e:b=a
   ·subst e
    rcases R.own_at oa with ⟨z,q⟩ | ⟨z,q⟩ | ⟨_,_,z,q⟩<;>(rcases h with h | ⟨o,h⟩<;>(rw[q] at h;cases h))
   ·refine .inl ?_
    unfold Rd at h ⊢
    rw[hb b e]
    exact h
  ·exact .inr h
 obtain⟨v,e,rfl,nb,oc⟩:=R.sl i _ hi
 have na:¬ AN (frz A i c) a:=by
  rintro(z | z)
  ·exact nb z
  ·exact(ow a z).2 rfl
 have rv:RV K (AN (frz A i c)) H2 c.pv (.ref a):=by
  cases c with
  | lst xs=>
   obtain⟨vs,h1,h2⟩:=oc
   have e2:H2=H:=hc
   exact .lst na (by rw[e2];exact h1) (h2.imp kp)
  | dic xs=>
   obtain⟨vs,h1,h2⟩:=oc
   obtain⟨kws,od,e1,e2⟩:=hc
   rw[h1] at e1
   cases e1
   exact .dic na ⟨vs,od,e2,rfl⟩ (h2.imp kp)
  | ins _ _ _=>exact hc.elim
 have ha:H2 a≠none:=by
  cases c with
  | lst xs=>
   obtain⟨vs,h1,h2⟩:=oc
   have e2:H2=H:=hc
   rw[e2,h1];intro z;cases z
  | dic xs=>
   obtain⟨kws,od,e1,e2⟩:=hc
   rw[e2];intro z;cases z
  | ins _ _ _=>exact hc.elim
 have bn:∀ b,A.B b→b≠a:=fun b h z=>nb (by rw[← z];exact h)
 refine⟨⟨?_,?_,fun b h=>by rw[hb b (bn b h)];exact R.dom b h,?_,?_,?_⟩,⟨fun b o h m=>by rw[hb b fun z=>m (by rw[z];exact .inl oa)];exact h,fun b z=>.inl (ow b z).1,rfl,fun b h=>?_,rfl⟩,rv,e⟩
 ·rw[R.len];exact(List.length_set ..).symm
 ·intro j s h
  rcases zaj h with ⟨rfl,z⟩ | ⟨n,z⟩
  ·cases z;exact⟨_,e,rv⟩
  ·obtain⟨v,e1,q⟩:=R.sl j s z
   refine⟨v,e1,?_⟩
   cases s with
   | val x=>exact q.imp kp
   | own b c'=>exact⟨q.1,q.2.1,q.2.2.imp kp fun o h=>by rw[hb b fun y=>n (by subst y;exact R.nd i j _ _ _ hi z)];exact h⟩
   | peek b c'=>exact⟨q.1,q.2.1,q.2.2.imp kp fun o h=>by rw[hb b (bn b q.2.1)];exact h⟩
 ·intro i1 j1 b c1 c2 h1 h2
  rcases zaj h1 with ⟨_,z⟩ | ⟨_,z1⟩
  ·cases z
  ·rcases zaj h2 with ⟨_,z⟩ | ⟨_,z2⟩
   ·cases z
   ·exact R.nd _ _ _ _ _ z1 z2
 ·intro st h
  obtain⟨h1,h2,h3⟩:=R.st st h
  refine⟨h1,?_,h3.keepF fun o u q=>?_⟩
  ·obtain⟨t,l,w,e,r⟩:=h2.ex
   exact⟨⟨t,l,w,by rw[hb _ (bn _ h1)];exact e,r⟩,fun T o z=>⟨by
    rw[hb _ fun y=>by
     have q:=(h2.tb T o z).1
     rw[y] at q
     rcases R.own_at oa with ⟨y,q2⟩ | ⟨y,q2⟩ | ⟨_,_,y,q2⟩<;>(rw[q2] at q;cases q)]
    exact(h2.tb T o z).1,(h2.tb T o z).2⟩⟩
  ·rw[hb _ fun z=>by
    rw[z] at q
    rcases R.own_at oa with ⟨y,q2⟩ | ⟨y,q2⟩ | ⟨_,_,y,q2⟩<;>(rw[q2] at q;cases q)]
   exact q
 ·intro i1 b c1 st h1 h2
  rcases zaj h1 with ⟨_,z⟩ | ⟨_,z1⟩
  ·cases z
  ·exact R.pk _ _ _ _ z1 h2
 ·by_cases z:b=a
  ·rw[z];exact ha
  ·rw[hb b z];exact h
theorem vn (i:Nat){x:Str} (hN:X.N[i]?=some x:=by rfl) (hv:Vis X.env.scope x:=by first | exact Or.inl rfl | exact Or.inr (Or.inl rfl) | exact Or.inr (Or.inr rfl)) (hd:(x==("__debug__":Str))=false:=by decide)
  (hcd:(x==("__classdict__":Str))=false:=by decide):PE X (.Name x pos) (liftV K (uVar i)):=(zat hN hv hd hcd).post fun σ H Q ⟨A,P,R,h,c⟩=>by
 unfold uVar at h
 split at h
 ·rename_i x hx
  obtain⟨v,e,q⟩:=R.sl i _ hx
  exact⟨v,e,fun pins s I=>⟨H,I,c _ A v H h R (Stp.refl A H) q⟩⟩
 ·rename_i a xs hx
  obtain⟨R1,S1,rv,e⟩:=R.freeze hx (H2:=H) (fun _ _=>rfl) rfl
  exact⟨_,e,fun pins s I=>⟨H,I,c _ _ _ H h R1 S1 rv⟩⟩
 ·rename_i a xs hx
  obtain⟨v,e,rfl,nb,ws,h1,h2⟩:=R.sl i _ hx
  refine⟨_,e,fun pins s I=>?_⟩
  obtain⟨od,I2⟩:=I.freezeD h1
  obtain⟨R1,S1,rv,_⟩:=R.freeze hx (H2:=upd H a (.frz od (.dK ws))) (fun b hb=>zac hb) ⟨ws,od,h1,zab⟩
  exact⟨_,I2,c _ _ _ _ h R1 S1 rv⟩
 ·exact h.elim
theorem qn (i:Nat){x:Str} (hN:X.N[i]?=some x:=by rfl) (hv:Vis X.env.scope x:=by first | exact Or.inl rfl | exact Or.inr (Or.inl rfl) | exact Or.inr (Or.inr rfl)) (hd:(x==("__debug__":Str))=false:=by decide)
  (hcd:(x==("__classdict__":Str))=false:=by decide):PE X (.Name x pos) (liftQ K (uPk i)):=(zat hN hv hd hcd).mono fun σ H Q ⟨A,P,R,h,c⟩=>by
 unfold uPk at h
 split at h
 ·rename_i x hx
  obtain⟨v,e,q⟩:=R.sl i _ hx
  exact⟨v,e,c _ A v H h R (Stp.refl A H) (.inl q)⟩
 ·rename_i a oc hx
  obtain⟨v,e,rfl,_,q⟩:=R.sl i _ hx
  exact⟨_,e,c _ A _ H h R (Stp.refl A H) (.inr ⟨i,a,.lst oc,⟨.inl hx,trivial⟩,rfl,rfl⟩)⟩
 ·rename_i a oc hx
  obtain⟨v,e,rfl,_,q⟩:=R.sl i _ hx
  exact⟨_,e,c _ A _ H h R (Stp.refl A H) (.inr ⟨i,a,.dic oc,⟨.inl hx,trivial⟩,rfl,rfl⟩)⟩
 ·rename_i a oc hx
  obtain⟨v,e,rfl,_,q⟩:=R.sl i _ hx
  exact⟨_,e,c _ A _ H h R (Stp.refl A H) (.inr ⟨i,a,.lst oc,⟨.inr hx,trivial⟩,rfl,rfl⟩)⟩
 ·rename_i a oc hx
  obtain⟨v,e,rfl,_,q⟩:=R.sl i _ hx
  exact⟨_,e,c _ A _ H h R (Stp.refl A H) (.inr ⟨i,a,.dic oc,⟨.inr hx,trivial⟩,rfl,rfl⟩)⟩
 ·exact h.elim
def uC (x:PV):UE:=fun A Q=>Q x A
theorem of_tC {v:V}{x:PV} (h:PE X e (tC v)) (r:∀ N H,RV K N H x v):PE X e (liftV K (uC x)):=h.mono fun σ H Q ⟨A,P,R,h,c⟩=>c x A v H h R (Stp.refl A H) (r _ _)
theorem vi {i:Int} {j}:PE X (.Constant (.int i) j pos) (liftV K (uC (.int i))):=of_tC zau fun _ _=>.int i
theorem vb {i:Bool} {j}:PE X (.Constant (.bool i) j pos) (liftV K (uC (.bl i))):=of_tC pe_bl fun _ _=>.bl i
theorem vs {i:Str} {j}:PE X (.Constant (.str i) j pos) (liftV K (uC (.str i))):=of_tC zaq fun _ _=>.str i
theorem v0 {j}:PE X (.Constant .none j pos) (liftV K (uC .non)):=of_tC zfB fun _ _=>.non
end
def uNil:UA:=fun A Q=>Q [] A
def uCons (ue:UE) (ua:UA):UA:=fun A Q=>ue A fun x A1=>ua A1 fun xs A2=>Q (x::xs) A2
def uTup (u:UA):UE:=fun A Q=>u A fun xs A1=>xs.length≤1000∧Q (.tup xs) A1
def uLst (u:UA):UE:=fun A Q=>u A fun xs A1=>xs.length≤1000∧Q (.lst xs) A1
section
variable {X:Cx}{K:PySem.W.Frag}{e:Expr}{es:List Expr}{ue:UE}{ua:UA}{pos:Pos}
theorem an:PA X [] (liftA K uNil):=pa_nil.mono fun σ H Q ⟨A,P,R,h,c⟩=>c [] A [] H h R (Stp.refl A H) .nil
theorem ac (h1:PE X e (liftV K ue)) (h2:PA X es (liftA K ua)) (hs:starEach (e::es) X.env=(false,eval e X.env)::starEach es X.env:=by rfl):PA X (e::es) (liftA K (uCons ue ua)):=
 (zad h1 h2 hs).mono fun σ H Q ⟨A,P,R,h,c⟩=>⟨A,_,R,h,fun x A1 v H1 p1 R1 S1 r1=>⟨A1,_,R1,p1,fun xs A2 vs H2 p2 R2 S2 r2=>
  c (x::xs) A2 (v::vs) H2 p2 R2 (S1.trans S2) (.cons (r1.imp (R1.keep S2)) r2)⟩⟩
theorem zfI {n:Nat} (h:n≤1000):n≤sizeLine:=Nat.le_trans h (by decide)
theorem et {x1} (h:PA X es (liftA K ua)):PE X (.Tuple es x1 pos) (liftV K (uTup ua)):=(pe_tup h).mono fun σ H Q ⟨A,P,R,h,c⟩=>⟨A,_,R,h,fun xs A1 vs H1 p1 R1 S1 r1=>by
 obtain⟨few,p1⟩:=p1
 refine⟨zfI (by rw[← r1.len];exact few),fun p hp=>?_⟩
 have s:=zam hp (.tup vs)
 exact c (.tup xs) A1 (.ref p) _ p1 (R1.same s) (S1.trans (Stp.same A1 s)) (.tup (SqT.of zab) (r1.imp (R1.keep (Stp.same A1 s))))⟩
theorem el (h:PA X es (liftA K ua)):PE X (.List es pos) (liftF K (uLst ua)):=(pe_lst h).mono fun σ H Q ⟨A,P,R,h,c⟩=>⟨A,_,R,h,fun xs A1 vs H1 p1 R1 S1 r1=>by
 obtain⟨few,p1⟩:=p1
 refine⟨zfI (by rw[← r1.len];exact few),fun p hp=>?_⟩
 have s:=zam hp (.lst vs)
 exact c (.lst xs) A1 (.ref p) H1 _ p1 R1 S1 ⟨p,.lst xs,rfl,rfl,hp,s,vs,zab,r1⟩⟩
end
abbrev G2:=PV→PV→PV→Prop
def Br2 (K:PySem.W.Frag) (r:R2) (G:G2):Prop:=∀ (H:Hp) (A:AS) (σ:St) (x y:PV) (v w:V) (z:PV) (Q:VK),Rep K H σ A→RVq K A H x v→RVq K A H y w→G x y z →
 (∀ v' H',Same H H'→RV K (AN A) H' z v'→Q v' H')→r v w H Q
def Br2F (K:PySem.W.Frag) (r:R2) (G:G2):Prop:=∀ (H:Hp) (A:AS) (σ:St) (x y:PV) (v w:V) (z:PV) (Q:VK),Rep K H σ A→RVq K A H x v→RVq K A H y w→G x y z →
 (∀ v' H',FrV K (AN A) H H' z v'→Q v' H')→r v w H Q
def u2 (G:G2) (ua ub:UE):UE:=fun A Q=>ua A fun x A1=>ub A1 fun y A2=>A2.rho=A1.rho∧∃ z,G x y z∧Q z A2
def u2t (G:G2) (ua ub:UE):UT:=fun A Q=>ua A fun x A1=>ub A1 fun y A2=>A2.rho=A1.rho∧∃ z,G x y (.bl z)∧Q z A2
section
variable {X:Cx}{K:PySem.W.Frag}{a b:Expr}{ua ub uc:UE}{pos:Pos}{r r':R2}{G G':G2}
theorem op2 (br:Br2 K r G):∀ σ H Q,liftV K (u2 G ua ub) σ H Q→tOp r (liftQ K ua) (liftQ K ub) σ H Q:=fun σ H Q ⟨A,P,R,h,c⟩=>
 ⟨A,_,R,h,fun x A1 v H1 p1 R1 S1 q1=>⟨A1,_,R1,p1,fun y A2 w H2 p2 R2 S2 q2=>by
  obtain⟨e,z,g,p⟩:=p2
  exact br H2 A2 σ x y v w z Q R2 (q1.step R1 S2 e) q2 g fun v' H' s rv=>c z A2 v' H' p (R2.same s) (S1.trans (S2.trans (Stp.same A2 s))) rv⟩⟩
theorem op2F (br:Br2F K r G):∀ σ H Q,liftF K (u2 G ua ub) σ H Q→tOp r (liftQ K ua) (liftQ K ub) σ H Q:=fun σ H Q ⟨A,P,R,h,c⟩=>
 ⟨A,_,R,h,fun x A1 v H1 p1 R1 S1 q1=>⟨A1,_,R1,p1,fun y A2 w H2 p2 R2 S2 q2=>by
  obtain⟨e,z,g,p⟩:=p2
  exact br H2 A2 σ x y v w z Q R2 (q1.step R1 S2 e) q2 g fun v' H' f=>c z A2 v' H2 H' p R2 (S1.trans S2) f⟩⟩
theorem op2t (br:Br2 K r G):∀ σ H Q,liftT K (u2t G ua ub) σ H Q→tTest (tOp r (liftQ K ua) (liftQ K ub)) σ H Q:=fun σ H Q ⟨A,P,R,h,c⟩=>
 ⟨A,_,R,h,fun x A1 v H1 p1 R1 S1 q1=>⟨A1,_,R1,p1,fun y A2 w H2 p2 R2 S2 q2=>by
  obtain⟨e,z,g,p⟩:=p2
  exact br H2 A2 σ x y v w (.bl z) _ R2 (q1.step R1 S2 e) q2 g fun v' H' s rv=>by
   cases rv
   exact⟨z,rfl,c z A2 H' p (R2.same s) (S1.trans (S2.trans (Stp.same A2 s)))⟩⟩⟩
theorem s_bin {op:Operator} (ho:OpR X (binaryOp op) r) (br:Br2 K r G) (ha:PE X a (liftQ K ua)) (hb:PE X b (liftQ K ub)):PE X (.BinOp a op b pos) (liftV K (u2 G ua ub)):=(zaH ho ha hb).mono (op2 br)
theorem s_binF {op:Operator} (ho:OpR X (binaryOp op) r) (br:Br2F K r G) (ha:PE X a (liftQ K ua)) (hb:PE X b (liftQ K ub)):PE X (.BinOp a op b pos) (liftF K (u2 G ua ub)):=(zaH ho ha hb).mono (op2F br)
theorem s_cmp {op:CmpOp} (ho:OpR X (compareOp op) r) (br:Br2 K r G) (ha:PE X a (liftQ K ua)) (hb:PE X b (liftQ K ub)) (hm:behindInMarks op b=false):PE X (.Compare a [op] [b] pos) (liftV K (u2 G ua ub)):=(pe_cmpR ho ha hb hm).mono (op2 br)
theorem zbx {op:CmpOp} (ho:OpR X (compareOp op) r) (br:Br2 K r G) (ha:PE X a (liftQ K ua)) (hb:PE X b (liftQ K ub)) (hm:behindInMarks op b=false):PT X (.Compare a [op] [b] pos) (liftT K (u2t G ua ub)):=(zbz ho ha hb hm).mono (op2t br)
theorem s_ix (ho:IxR X r) (br:Br2 K r G) (ha:PE X a (liftQ K ua)) (hb:PE X b (liftQ K ub)) (hs:PlainIx b):PE X (.Subscript a b pos) (liftV K (u2 G ua ub)):=(pe_ix ho ha hb hs).mono (op2 br)
end
def uAnd (t u:UT):UT:=fun A Q=>t A fun c A1=>if c=true then u A1 Q else Q false A1
def uOr (t u:UT):UT:=fun A Q=>t A fun c A1=>if c=true then Q true A1 else u A1 Q
def uNot (t:UT):UT:=fun A Q=>t A fun c A1=>Q (!c) A1
def uAndV (ua ub:UE):UE:=fun A Q=>ua A fun x A1=>∃ c,x=.bl c∧if c=true then ub A1 Q else Q (.bl false) A1
def uNotV (ua:UE):UE:=fun A Q=>ua A fun x A1=>∃ c,x=.bl c∧Q (.bl (!c)) A1
def uIfE (t:UT) (ua ub:UE):UE:=fun A Q=>t A fun c A1=>if c=true then ua A1 Q else ub A1 Q
def ptru:PV→Option Bool
 | .non=>some false
 | .bl b=>some b
 | .int i=>some (i != 0)
 | .str x=>if x.length≤1000 then some ((x.length:Int) != 0) else none
 | .tup xs=>some !xs.isEmpty
 | .lst xs=>some !xs.isEmpty
 | _=>none
def uTru (u:UE):UT:=fun A Q=>u A fun x A1=>∃ c,ptru x=some c∧Q c A1
section
variable {X:Cx}{K:PySem.W.Frag}{a b c:Expr}{rest:List Expr}{ua ub:UE}{t u:UT}{pos:Pos}
theorem zcX (h:PT X a (liftT K t)):PW X (.BoolOp .And [a] pos) (liftT K t):=pw_and1 h
theorem zbR (h:PT X a (liftT K t)):PW X (.BoolOp .Or [a] pos) (liftT K t):=pw_or1 h
theorem t_and (ha:PT X a (liftT K t)) (hb:PW X (.BoolOp .And (b::rest) pos) (liftT K u)):PW X (.BoolOp .And (a::b::rest) pos) (liftT K (uAnd t u)):=(pw_and ha hb).mono fun σ H Q ⟨A,P,R,h,c⟩=>
 ⟨A,_,R,h,fun k A1 H1 p1 R1 S1=>by
  cases k with
  | true=>exact iteT ⟨A1,P,R1,p1,fun b A2 H2 p2 R2 S2=>c b A2 H2 p2 R2 (S1.trans S2)⟩
  | false=>exact iteF (c false A1 H1 p1 R1 S1)⟩
theorem t_or (ha:PT X a (liftT K t)) (hb:PW X (.BoolOp .Or (b::rest) pos) (liftT K u)):PW X (.BoolOp .Or (a::b::rest) pos) (liftT K (uOr t u)):=(pw_or ha hb).mono fun σ H Q ⟨A,P,R,h,c⟩=>
 ⟨A,_,R,h,fun k A1 H1 p1 R1 S1=>by
  cases k with
  | true=>exact iteT (c true A1 H1 p1 R1 S1)
  | false=>exact iteF ⟨A1,P,R1,p1,fun b A2 H2 p2 R2 S2=>c b A2 H2 p2 R2 (S1.trans S2)⟩⟩
theorem zbw (ha:PT X a (liftT K t)):PT X (.UnaryOp .Not a pos) (liftT K (uNot t)):=(pt_not ha).mono fun σ H Q ⟨A,P,R,h,c⟩=>⟨A,_,R,h,fun k A1 H1 p1 R1 S1=>c (!k) A1 H1 p1 R1 S1⟩
theorem zbc (hK:X.K=K) (h:PE X a (liftQ K ua)) (he:∀ whole,isTrue a X.env whole=(do let v ← whole;standAt a.pos;holding [v] (truthy v)):=by intro _;rfl):PT X a (liftT K (uTru ua)):=(pt_truth h he).mono fun σ H Q ⟨A,P,R,h,c⟩=>
 ⟨A,_,R,h,fun x A1 v H1 p1 R1 S1 r1=>by
  subst hK
  obtain⟨k,e,p1⟩:=p1
  refine⟨k,?_,c k A1 H1 p1 R1 S1⟩
  cases x with
  | non=>cases r1.non;exact(Option.some.inj e).symm
  | bl b=>cases r1.bl;exact(Option.some.inj e).symm
  | int b=>cases r1.int;exact(Option.some.inj e).symm
  | str b=>
   cases r1.str
   have e':(if b.length≤1000 then some ((b.length:Int) != 0) else none)=some k:=e
   by_cases hb:b.length≤1000
   ·rw[if_pos hb] at e'
    exact⟨zfI hb,(Option.some.inj e').symm⟩
   ·rw[if_neg hb] at e'
    cases e'
  | tup xs=>
   obtain⟨p,vs,rfl,h1,h2⟩:=r1.tup
   refine .inr (.inl ⟨vs,h1,?_⟩)
   rw[← Option.some.inj e]
   cases h2<;>rfl
  | lst xs=>
   obtain⟨p,vs,rfl,h1,h2⟩:=r1.lst R1
   refine .inl ⟨vs,.inl (.inl h1),?_⟩
   rw[← Option.some.inj e]
   cases h2<;>rfl
  | dic _=>cases e
  | raw _=>cases e⟩
theorem e_one {op} (h:PE X a (liftV K ua)):PE X (.BoolOp op [a] pos) (liftV K ua):=pe_one h
theorem e_and (ha:PE X a (liftV K ua)) (hb:PE X (.BoolOp .And (b::rest) pos) (liftV K ub)):PE X (.BoolOp .And (a::b::rest) pos) (liftV K (uAndV ua ub)):=(pe_and ha hb).mono fun σ H Q ⟨A,P,R,h,c⟩=>
 ⟨A,_,R,h,fun x A1 v H1 p1 R1 S1 r1=>by
  obtain⟨k,rfl,p1⟩:=p1
  cases r1
  refine⟨k,rfl,?_⟩
  cases k with
  | true=>exact iteT ⟨A1,P,R1,p1,fun b A2 v H2 p2 R2 S2 r2=>c b A2 v H2 p2 R2 (S1.trans S2) r2⟩
  | false=>exact iteF (c _ A1 _ H1 p1 R1 S1 (.bl false))⟩
theorem e_not (ha:PE X a (liftV K ua)):PE X (.UnaryOp .Not a pos) (liftV K (uNotV ua)):=(pe_not ha).mono fun σ H Q ⟨A,P,R,h,c⟩=>
 ⟨A,_,R,h,fun x A1 v H1 p1 R1 S1 r1=>by
  obtain⟨k,rfl,p1⟩:=p1
  cases r1
  exact⟨k,rfl,c _ A1 _ H1 p1 R1 S1 (.bl (!k))⟩⟩
theorem e_if (hc:PT X c (liftT K t)) (ha:PE X a (liftV K ua)) (hb:PE X b (liftV K ub)):PE X (.IfExp c a b pos) (liftV K (uIfE t ua ub)):=(zfD hc ha hb).mono fun σ H Q ⟨A,P,R,h,c⟩=>
 ⟨A,_,R,h,fun k A1 H1 p1 R1 S1=>by
  cases k with
  | true=>exact iteT ⟨A1,P,R1,p1,fun b A2 v H2 p2 R2 S2 r2=>c b A2 v H2 p2 R2 (S1.trans S2) r2⟩
  | false=>exact iteF ⟨A1,P,R1,p1,fun b A2 v H2 p2 R2 S2 r2=>c b A2 v H2 p2 R2 (S1.trans S2) r2⟩⟩
end
end L2
namespace L2
open PySem PySem.Spec PyProof.Rows
def put (A:AS) (i:Nat) (s:Sl):AS:={ A with rho:=A.rho.set i (some s) }
def forget (A:AS) (i:Nat):AS:={ A with rho:=A.rho.set i none }
structure UEnds where
 nx:AS→Prop
 rt:PV→AS→Prop
 rf:PV→AS→Prop
 bk:AS→Prop:=fun _=>False
 ct:AS→Prop:=fun _=>False
abbrev US:=UEnds→AS→Prop
structure EndsOk (K:PySem.W.Frag) (A:AS) (H:Hp) (E:UEnds) (D:Ends):Prop where
 nx:∀ A1 σ1 H1,E.nx A1→Rep K H1 σ1 A1→Stp A H A1 H1→D.nx σ1 H1
 rt:∀ r A1 σ1 v H1,E.rt r A1→Rep K H1 σ1 A1→Stp A H A1 H1→RV K (AN A1) H1 r v→D.rt v H1
 rf:∀ r A1 σ1 v H0 H1,E.rf r A1→Rep K H0 σ1 A1→Stp A H A1 H0→FrV K (AN A1) H0 H1 r v→D.rt v H1
 ro:∀ (i:Nat) (a:Addr) (c:OC) A1 σ1 H1,A1.rho[i]?=some (some (.own a c))→c.Ld→E.rf c.pv (forget A1 i)→Rep K H1 σ1 A1→Stp A H A1 H1→D.rt (.ref a) H1
 bk:∀ A1 σ1 H1,E.bk A1→Rep K H1 σ1 A1→Stp A H A1 H1→D.bk σ1 H1
 ct:∀ A1 σ1 H1,E.ct A1→Rep K H1 σ1 A1→Stp A H A1 H1→D.ct σ1 H1
theorem EndsOk.step {K:PySem.W.Frag}{A A1:AS}{H H1:Hp}{E:UEnds}{D:Ends} (k:EndsOk K A H E D) (s:Stp A H A1 H1):EndsOk K A1 H1 E D:=
 ⟨fun A2 σ2 H2 p R t=>k.nx A2 σ2 H2 p R (s.trans t),fun r A2 σ2 v H2 p R t=>k.rt r A2 σ2 v H2 p R (s.trans t),fun r A2 σ2 v H0 H2 p R t=>k.rf r A2 σ2 v H0 H2 p R (s.trans t),fun i a c A2 σ2 H2 hi hl p R t=>k.ro i a c A2 σ2 H2 hi hl p R (s.trans t),fun A2 σ2 H2 p R t=>k.bk A2 σ2 H2 p R (s.trans t),fun A2 σ2 H2 p R t=>k.ct A2 σ2 H2 p R (s.trans t)⟩
def liftS (K:PySem.W.Frag) (u:US):TS:=fun D σ H=>∃ A E,Rep K H σ A∧u E A∧EndsOk K A H E D
def uNext:US:=fun E A=>E.nx A
def uSeq (u w:US):US:=fun E A=>u { E with nx:=fun A1=>w E A1 } A
def uIf (t:UT) (u w:US):US:=fun E A=>t A fun k A1=>if k=true then u E A1 else w E A1
def uSet (i:Nat) (u:UE):US:=fun E A=>u A fun r A1=>E.nx (put A1 i (.val r))
def uOwn (i:Nat) (u:UE):US:=fun E A=>u A fun r A1=>∃ c:OC,r=c.pv∧∀ p,E.nx (put A1 i (.own p c))
def uDrop (u:UE):US:=fun E A=>u A fun _ A1=>E.nx A1
def uRet (u:UE):US:=fun E A=>u A fun r A1=>E.rt r A1
def uRetF (u:UE):US:=fun E A=>u A fun r A1=>E.rf r A1
def uRetO (i:Nat):US:=fun E A=>match A.rho[i]? with
 | some (some (.own _ (.lst xs)))=>E.rf (.lst xs) (forget A i)
 | some (some (.own _ (.dic xs)))=>E.rf (.dic xs) (forget A i)
 | _=>False
def uNever:US:=fun _ _=>False
section
variable {K:PySem.W.Frag}{H H1:Hp}{σ:St}{A:AS}{i:Nat}
theorem an_put {s:Sl} (hs:∀ a c,s≠.own a c){b:Addr} (h:AN (put A i s) b):AN A b:=by
 rcases h with h | ⟨j,c,h⟩
 ·exact .inl h
 ·rcases zaj h with ⟨_,z⟩ | ⟨_,z⟩
  ·exact absurd (Option.some.inj z).symm (hs _ _)
  ·exact .inr ⟨j,c,z⟩
theorem own_put {s:Sl} (hs:∀ a c,s≠.own a c){b:Addr} (h:Own (put A i s).rho b):Own A.rho b:=by
 obtain⟨j,c,h⟩:=h
 rcases zaj h with ⟨_,z⟩ | ⟨_,z⟩
 ·exact absurd (Option.some.inj z).symm (hs _ _)
 ·exact⟨j,c,z⟩
theorem Rep.val (R:Rep K H σ A){r:PV}{v:V} (rv:RV K (AN A) H r v):Rep K H (σ.set i (some v)) (put A i (.val r))∧Stp A H (put A i (.val r)) H:=by
 have no:∀ a c,Sl.val r≠.own a c:=fun _ _ z=>by cases z
 have kp:KeepV K (AN A) (AN (put A i (.val r))) H H:=⟨fun _ _ h=>h,fun _ _ n h=>⟨fun z=>n (an_put no z),h⟩⟩
 refine⟨⟨?_,?_,R.dom,?_,R.st,?_⟩,⟨fun _ _ h _=>h,fun b z=>.inl (own_put no z),rfl,fun _ h=>h,rfl⟩⟩
 ·rw[List.length_set,R.len];exact(List.length_set ..).symm
 ·intro j s h
  rcases zaj h with ⟨rfl,z⟩ | ⟨n,z⟩
  ·cases z
   refine⟨v,?_,rv.imp kp⟩
   have:i<A.rho.length:=by
    by_cases hl:i<A.rho.length
    ·exact hl
    ·have h':(A.rho.set i (some (Sl.val r)))[i]?=some (some (.val r)):=h
     rw[List.getElem?_set,if_pos rfl,if_neg hl] at h'
     cases h'
   rw[List.getElem?_set,if_pos rfl,if_pos (by rw[R.len];exact this)]
  ·obtain⟨w,e1,q⟩:=R.sl j s z
   refine⟨w,by rw[List.getElem?_set,if_neg n];exact e1,?_⟩
   cases s with
   | val x=>exact q.imp kp
   | own b c=>exact⟨q.1,q.2.1,q.2.2.imp kp fun _ h=>h⟩
   | peek b c=>exact⟨q.1,q.2.1,q.2.2.imp kp fun _ h=>h⟩
 ·intro i1 j1 b c1 c2 h1 h2
  rcases zaj h1 with ⟨_,z⟩ | ⟨_,z1⟩
  ·cases z
  ·rcases zaj h2 with ⟨_,z⟩ | ⟨_,z2⟩
   ·cases z
   ·exact R.nd _ _ _ _ _ z1 z2
 ·intro i1 b c1 st h1 h2
  rcases zaj h1 with ⟨_,z⟩ | ⟨_,z1⟩
  ·cases z
  ·exact R.pk _ _ _ _ z1 h2
theorem Rep.freshC (R:Rep K H σ A){c':OC}{p:Addr} (hp:H p=none) (s:Same H H1) (hc:match c' with
  | .lst xs=>∃ vs,H1 p=some (.lst vs)∧RVs K (AN A) H xs vs
  | .dic kvs=>∃ kws:List (Key×V),H1 p=some (.dK kws)∧RKs K (AN A) H kvs (kws.map fun kv=>(kV kv.1,kv.2))
  | .ins C dx fs=>∃ ws,H1 p=some (.ins C dx ws)∧RFs K (AN A) H fs ws):Rep K H1 (σ.set i (some (.ref p))) (put A i (.own p c'))∧Stp A H (put A i (.own p c')) H1:=by
 have np:=R.new hp
 have ow:∀ b,Own (put A i (.own p c')).rho b→Own A.rho b∨b=p:=by
  rintro b ⟨j,c,h⟩
  rcases zaj h with ⟨_,z⟩ | ⟨_,z⟩
  ·cases z;exact .inr rfl
  ·exact .inl ⟨j,c,z⟩
 have S:Stp A H (put A i (.own p c')) H1:=⟨fun a o h _=>s a o h,fun b z=>(ow b z).elim .inl fun e=>.inr (by rw[e];exact hp),rfl,(Stp.same A s).dm,rfl⟩
 have kp:=R.keep S
 have oc:OcAt K (AN (put A i (.own p c'))) H1 p c':=by
  cases c' with
  | lst xs=>obtain⟨vs,h1,h2⟩:=hc;exact⟨vs,h1,h2.imp kp⟩
  | dic xs=>obtain⟨vs,h1,h2⟩:=hc;exact⟨vs,h1,h2.imp kp⟩
  | ins C dx xs=>obtain⟨vs,h1,h2⟩:=hc;exact⟨vs,h1,h2.1,h2.2.imp kp⟩
 have R1:=R.same s
 refine⟨⟨?_,?_,R1.dom,?_,R1.st,?_⟩,S⟩
 ·rw[List.length_set,R.len];exact(List.length_set ..).symm
 ·intro j t h
  rcases zaj h with ⟨rfl,z⟩ | ⟨n,z⟩
  ·cases z
   refine⟨.ref p,?_,rfl,fun z=>np (.inl z),oc⟩
   have:i<A.rho.length:=by
    by_cases hl:i<A.rho.length
    ·exact hl
    ·have h':(A.rho.set i (some (Sl.own p c')))[i]?=some (some (.own p c')):=h
     rw[List.getElem?_set,if_pos rfl,if_neg hl] at h'
     cases h'
   rw[List.getElem?_set,if_pos rfl,if_pos (by rw[R.len];exact this)]
  ·obtain⟨w,e1,q⟩:=R.sl j t z
   refine⟨w,by rw[List.getElem?_set,if_neg n];exact e1,?_⟩
   cases t with
   | val x=>exact q.imp kp
   | own b c=>exact⟨q.1,q.2.1,q.2.2.imp kp fun o h=>s b o h⟩
   | peek b c=>exact⟨q.1,q.2.1,q.2.2.imp kp fun o h=>s b o h⟩
 ·intro i1 j1 b c1 c2 h1 h2
  have notp:∀ {j:Nat}{c:OC},A.rho[j]?=some (some (.own p c))→False:=fun h=>np (.inr ⟨_,_,h⟩)
  rcases zaj h1 with ⟨e1,z1⟩ | ⟨_,z1⟩
  ·cases z1
   rcases zaj h2 with ⟨e2,z2⟩ | ⟨_,z2⟩
   ·exact e1.symm.trans e2
   ·exact(notp z2).elim
  ·rcases zaj h2 with ⟨_,z2⟩ | ⟨_,z2⟩
   ·cases z2;exact(notp z1).elim
   ·exact R.nd _ _ _ _ _ z1 z2
 ·intro i1 b c1 st h1 h2
  rcases zaj h1 with ⟨_,z⟩ | ⟨_,z1⟩
  ·cases z
  ·exact R.pk _ _ _ _ z1 h2
theorem Rep.fresh (R:Rep K H σ A){c:OC}{v:V} (f:FrV K (AN A) H H1 c.pv v):∃ p,v=.ref p∧Rep K H1 (σ.set i (some v)) (put A i (.own p c))∧Stp A H (put A i (.own p c)) H1:=by
 obtain⟨p,c',e,rfl,hp,s,hc⟩:=f
 cases c' with
 | lst xs=>
  have ec:OC.lst xs=c:=by cases c<;>cases e<;>rfl
  subst ec
  exact⟨p,rfl,R.freshC hp s hc⟩
 | dic xs=>
  have ec:OC.dic xs=c:=by cases c<;>cases e<;>rfl
  subst ec
  exact⟨p,rfl,R.freshC hp s hc⟩
 | ins _ _ _=>exact hc.elim
theorem Rep.turn (R:Rep K H σ A){a:Addr}{xs ys:List PV}{vs:List V} (hi:A.rho[i]?=some (some (.own a (.lst xs)))) (r:RVs K (AN A) H ys vs):Rep K (upd H a (.lst vs)) σ (put A i (.own a (.lst ys)))∧Stp A H (put A i (.own a (.lst ys))) (upd H a (.lst vs)):=by
 obtain⟨v,ev,rfl,nb,us,ha,_⟩:=R.sl i _ hi
 have ow:∀ b,Own (put A i (.own a (.lst ys))).rho b→Own A.rho b:=by
  rintro b ⟨j,c,h⟩
  rcases zaj h with ⟨_,z⟩ | ⟨_,z⟩
  ·cases z;exact⟨i,_,hi⟩
  ·exact⟨j,c,z⟩
 have dm:∀ b,H b≠none→upd H a (.lst vs) b≠none:=fun b h=>by
  by_cases e:b=a
  ·subst e;rw[zab];intro z;cases z
  ·rw[zac e];exact h
 have S:Stp A H (put A i (.own a (.lst ys))) (upd H a (.lst vs)):=⟨fun b o h m=>by
  rw[zac fun e=>m (.inl ⟨i,_,by rw[e];exact hi⟩)];exact h,fun b z=>.inl (ow b z),rfl,dm,rfl⟩
 have kp:=R.keep S
 refine⟨⟨?_,?_,fun b h=>dm b (R.dom b h),?_,?_,?_⟩,S⟩
 ·rw[R.len];exact(List.length_set ..).symm
 ·intro j t h
  rcases zaj h with ⟨rfl,z⟩ | ⟨n,z⟩
  ·cases z;exact⟨_,ev,rfl,nb,vs,zab,r.imp kp⟩
  ·obtain⟨w,e1,q⟩:=R.sl j t z
   refine⟨w,e1,?_⟩
   cases t with
   | val x=>exact q.imp kp
   | own b c=>
    have nab:b≠a:=fun e=>n (by subst e;exact R.nd _ _ _ _ _ hi z)
    exact⟨q.1,q.2.1,q.2.2.imp kp fun o h=>by rw[zac nab];exact h⟩
   | peek b c=>
    have nab:b≠a:=fun e=>nb (by subst e;exact q.2.1)
    exact⟨q.1,q.2.1,q.2.2.imp kp fun o h=>by rw[zac nab];exact h⟩
 ·intro i1 j1 b c1 c2 h1 h2
  rcases zaj h1 with ⟨e1,z1⟩ | ⟨_,z1⟩
  ·cases z1
   rcases zaj h2 with ⟨e2,z2⟩ | ⟨_,z2⟩
   ·exact e1.symm.trans e2
   ·exact e1.symm.trans (R.nd _ _ _ _ _ hi z2)
  ·rcases zaj h2 with ⟨e2,z2⟩ | ⟨_,z2⟩
   ·cases z2;exact(R.nd _ _ _ _ _ z1 hi).trans e2
   ·exact R.nd _ _ _ _ _ z1 z2
 ·intro st h
  obtain⟨h1,h2,h3⟩:=R.st st h
  have nd:a≠st.d:=fun e=>nb (by rw[e];exact h1)
  refine⟨h1,h2.upd nd (fun ps z=>by rw[ha] at z;cases z),?_⟩
  exact h3.keepF fun o u h3=>by
   rw[zac fun e=>by rw[e,ha] at h3;cases h3]
   exact h3
 ·intro i1 b c1 st h1 h2
  rcases zaj h1 with ⟨_,z⟩ | ⟨_,z1⟩
  ·cases z
  ·exact R.pk _ _ _ _ z1 h2
end
end L2
namespace L2
open PySem PySem.Spec PyProof.Rows
section
variable {X:Cx}{K:PySem.W.Frag}{st:Stmt}{rest sa sb:List Stmt}{u w:US}{e c:Expr}{ue:UE}{t:UT}{pos:Pos}
theorem sn:PSs X [] (liftS K uNext):=pss_nil.mono fun D σ H ⟨A,E,R,h,k⟩=>k.nx A σ H h R (Stp.refl A H)
theorem sc (h1:PS X st (liftS K u)) (h2:PSs X rest (liftS K w)):PSs X (st::rest) (liftS K (uSeq u w)):=(zah h1 h2).mono fun D σ H ⟨A,E,R,h,k⟩=>
 ⟨A,{ E with nx:=fun A1=>w E A1 },R,h,⟨fun A1 σ1 H1 p R1 S1=>⟨A1,E,R1,p,k.step S1⟩,k.rt,k.rf,k.ro,k.bk,k.ct⟩⟩
theorem s1 (h1:PS X st (liftS K u)):PSs X [st] (liftS K u):=zak h1
theorem zeR:PS X st (liftS K uNever):=ps_never.mono fun D σ H ⟨A,E,R,h,k⟩=>h
theorem s_if (hc:PT X c (liftT K t)) (ha:PSs X sa (liftS K u)) (hb:PSs X sb (liftS K w)):PS X (.If c sa sb pos) (liftS K (uIf t u w)):=(zcR hc ha hb).mono fun D σ H ⟨A,E,R,h,k⟩=>
 ⟨A,_,R,h,fun b A1 H1 p R1 S1=>by
  cases b with
  | true=>exact iteT ⟨A1,E,R1,p,k.step S1⟩
  | false=>exact iteF ⟨A1,E,R1,p,k.step S1⟩⟩
theorem zas {i:Nat}{x:Str}{pos':Pos} (hN:X.N.Nodup) (he:PE X e (liftV K ue)) (hi:X.N[i]?=some x:=by rfl) (hx:Loc X.env.scope x:=by first | exact Or.inl rfl | exact Or.inr rfl) (hs:swapsWith e (some (.Name x pos')) pos.line X.env=pure false:=by rfl)
  (hf:X.fn x=true∨X.env.scope.names.lookup x=some .local:=by first | exact .inl rfl | exact .inr rfl | assumption):PS X (.Assign [.Name x pos'] e pos) (liftS K (uSet i ue)):=(zaM hN hi hx he hs hf).mono fun D σ H ⟨A,E,R,h,k⟩=>
 ⟨A,_,R,h,fun r A1 v H1 p R1 S1 rv=>k.nx _ _ H1 p (R1.val rv).1 (S1.trans (R1.val rv).2)⟩
theorem s_own {i:Nat}{x:Str}{pos':Pos} (hN:X.N.Nodup) (he:PE X e (liftF K ue)) (hi:X.N[i]?=some x:=by rfl) (hx:Loc X.env.scope x:=by first | exact Or.inl rfl | exact Or.inr rfl) (hs:swapsWith e (some (.Name x pos')) pos.line X.env=pure false:=by rfl)
  (hf:X.fn x=true∨X.env.scope.names.lookup x=some .local:=by first | exact .inl rfl | exact .inr rfl | assumption):PS X (.Assign [.Name x pos'] e pos) (liftS K (uOwn i ue)):=(zaM hN hi hx he hs hf).mono fun D σ H ⟨A,E,R,h,k⟩=>
 ⟨A,_,R,h,fun r A1 v H0 H1 p R1 S1 f=>by
  obtain⟨c,rfl,p⟩:=p
  obtain⟨q,rfl,R2,S2⟩:=R1.fresh (i:=i) f
  exact k.nx _ _ H1 (p q) R2 (S1.trans S2)⟩
theorem zcf (he:PE X e (liftV K ue)) (hs:swapsWith e none pos.line X.env=pure false:=by rfl):PS X (.Expr e pos) (liftS K (uDrop ue)):=(zdv he hs).mono fun D σ H ⟨A,E,R,h,k⟩=>
 ⟨A,_,R,h,fun r A1 v H1 p R1 S1 rv=>k.nx _ _ H1 p R1 S1⟩
theorem zal (he:PE X e (liftV K ue)):PS X (.Return (some e) pos) (liftS K (uRet ue)):=(zaV he).mono fun D σ H ⟨A,E,R,h,k⟩=>
 ⟨A,_,R,h,fun r A1 v H1 p R1 S1 rv=>k.rt r A1 σ v H1 p R1 S1 rv⟩
theorem zcu (he:PE X e (liftF K ue)):PS X (.Return (some e) pos) (liftS K (uRetF ue)):=(zaV he).mono fun D σ H ⟨A,E,R,h,k⟩=>
 ⟨A,_,R,h,fun r A1 v H0 H1 p R1 S1 f=>k.rf r A1 σ v H0 H1 p R1 S1 f⟩
theorem s_retO {i:Nat}{x:Str}{pos':Pos} (hN:X.N[i]?=some x:=by rfl) (hv:Vis X.env.scope x:=by first | exact Or.inl rfl | exact Or.inr (Or.inl rfl) | exact Or.inr (Or.inr rfl)) (hd:(x==("__debug__":Str))=false:=by decide)
  (hcd:(x==("__classdict__":Str))=false:=by decide):PS X (.Return (some (.Name x pos')) pos) (liftS K (uRetO i)):=(zaV (zat hN hv hd hcd)).mono fun D σ H ⟨A,E,R,h,k⟩=>by
 unfold uRetO at h
 split at h
 ·rename_i a cc hx
  obtain⟨v,e,rfl,_⟩:=R.sl i _ hx
  exact⟨_,e,k.ro i a (.lst cc) A σ H hx trivial h R (Stp.refl A H)⟩
 ·rename_i a cc hx
  obtain⟨v,e,rfl,_⟩:=R.sl i _ hx
  exact⟨_,e,k.ro i a (.dic cc) A σ H hx trivial h R (Stp.refl A H)⟩
 ·exact h.elim
end
end L2
namespace L2
open PySem PySem.Spec PyProof.Rows
abbrev UI:=AS→(List PV→(AS→Prop)→AS→Prop)→Prop
abbrev UG:=PV→AS→(AS→Prop)→Prop
abbrev UGs:=List PV→AS→(AS→Prop)→Prop
def ButS (S:Option SSt) (H H1:Hp):Prop:=∀ b o,H b=some o→(¬ ∃ st,S=some st∧st.d=b)→H1 b=some o
structure ItOk (K:PySem.W.Frag) (A:AS) (H:Hp) (J:It) (xs:List PV) (C:AS→Prop):Prop where
 go:∀ σ2 A2 H2,Rep K H2 σ2 A2→Stp A H A2 H2→C A2→∀ i x,xs[i]?=some x→J.go i H2∧∀ v H',J.yld i H2 v H'→Same H2 H'∧RV K (AN A2) H' x v
 stop:∀ σ2 A2 H2,Rep K H2 σ2 A2→Stp A H A2 H2→C A2→J.stop xs.length H2
 cm:∀ H2,ButS A.S H H2→(∀ i x,xs[i]?=some x→J.go i H2∧∀ v H',J.yld i H2 v H'→Same H2 H'∧RV K (fun a=>AN A a∨H a=none) H' x v)∧J.stop xs.length H2
def liftI (K:PySem.W.Frag) (u:UI):TI:=fun σ H R=>∃ A P,Rep K H σ A∧u A P∧∀ xs C A1 J H1,P xs C A1→Rep K H1 σ A1→Stp A H A1 H1→ItOk K A1 H1 J xs C→R J H1
def liftG (K:PySem.W.Frag) (g:UG):TG:=fun v σ H Q=>∃ x A P,Rep K H σ A∧RV K (AN A) H x v∧g x A P∧∀ A1 σ1,P A1→Rep K H σ1 A1→Stp A H A1 H→Q σ1 H
theorem PG.mono {X:Cx}{e:Expr}{t t':TG} (h:PG X e t) (f:∀ v σ H Q,t' v σ H Q→t v σ H Q):PG X e t':=fun pins s σ H v u Q I r w=>h pins s σ H v u Q I r (f _ _ _ _ w)
def gN (i:Nat):UG:=fun x A Q=>Q (put A i (.val x))
def gs0:UGs:=fun xs A Q=>xs=[]∧Q A
section
variable {X:Cx}{K:PySem.W.Frag}{e tg:Expr}{es:List Expr}{g:UG}{gs:UGs}{pos:Pos}
theorem g_n {i:Nat}{x:Str} (hN:X.N.Nodup) (hi:X.N[i]?=some x:=by rfl) (hx:Loc X.env.scope x:=by first | exact Or.inl rfl | exact Or.inr rfl) (hf:X.fn x=true∨X.env.scope.names.lookup x=some .local:=by first | exact .inl rfl | exact .inr rfl | assumption):PG X (.Name x pos) (liftG K (gN i)):=
 (pg_name hN hi hx hf).mono fun v σ H Q ⟨x,A,P,R,rv,h,c⟩=>c _ _ h (R.val rv).1 (R.val rv).2
end
def iSeq (K:PySem.W.Frag) (tl:TE):TI:=fun σ H R=>tl σ H fun x H1=>(∃ a,x=.ref a∧(∃ xs,SqL K H1 a xs)∧R (Itl K a) H1)∨(∃ a,x=.ref a∧(∃ xs,SqT K H1 a xs)∧R (Itt K a) H1)∨(∃ z,x=.str z∧z.cps.all (·<128)=true∧R (Its z) H1)∨∃ a od kvs,x=.ref a∧H1 a=some (.frz od (.dK kvs))∧R (Itd a od) H1
theorem pi_seq {X:Cx}{tg l:Expr}{tl:TE} (hl:PE X l tl):PI X tg l (iSeq X.K tl):=by
 intro pins s σ H R I h
 refine thn (hl pins s σ H _ I h) fun v s1 ⟨x,H1,I1,r1,q1⟩=>?_
 rcases q1 with ⟨a,e,⟨xs,hq⟩,q⟩ | ⟨a,e,⟨xs,hq⟩,q⟩ | ⟨z,e,ha,q⟩ | ⟨a,od,kvs,e,hq,q⟩
 ·subst e
  cases r1
  obtain⟨its,rv,p,hz⟩:=I1.list hq
  refine wpAny_pyIter_list p.isList ?_
  refine⟨s1.heap.objs.size,[s1.heap.objs.size],_,_,H1,rfl,I1.kept (t':=s1.toks) fun b o e=>Heap.get?_push_of_some _ e,turn_list a _,⟨_,Heap.get?_push_size _ rfl,rfl,rfl⟩,fun b hb=>?_,q⟩
  have e:b=s1.heap.objs.size:=by simpa using hb
  subst e
  exact I1.fpOk (Nat.le_refl _) (I1.hok.fresh (Nat.le_refl _))
 ·subst e
  cases r1
  obtain⟨its,rv,p,hz⟩:=I1.tuple hq
  refine wpAny_pyIter_tuple (show s1.heap.IsTuple a its.toArray from p) ?_
  refine⟨s1.heap.objs.size,[s1.heap.objs.size],_,_,H1,rfl,I1.kept (t':=s1.toks) fun b o e=>Heap.get?_push_of_some _ e,turn_tuple a _,⟨_,Heap.get?_push_size _ rfl,rfl,rfl⟩,fun b hb=>?_,q⟩
  have e:b=s1.heap.objs.size:=by simpa using hb
  subst e
  exact I1.fpOk (Nat.le_refl _) (I1.hok.fresh (Nat.le_refl _))
 ·subst e
  obtain⟨t,rfl⟩:=r1
  refine wpAny_pyIter_ascii ha ?_
  refine⟨s1.heap.objs.size,[s1.heap.objs.size],_,_,H1,rfl,I1.kept (t':=s1.toks) fun b o e=>Heap.get?_push_of_some _ e,turn_str _ z t,⟨_,Heap.get?_push_size _ rfl,rfl,rfl⟩,fun b hb=>?_,q⟩
  have e:b=s1.heap.objs.size:=by simpa using hb
  subst e
  exact I1.fpOk (Nat.le_refl _) (I1.hok.fresh (Nat.le_refl _))
 ·subst e
  cases r1
  obtain⟨e,z,n,vs,r,ob,es,ep,e',c,d,q1,q2,q3⟩:=id (I1.hok a _ hq)
  rw[e] at e'
  cases e'
  have hsz:es.size=vs.length:=by rw[← q2.length];simp
  refine wpAny_pyIter_dict (knd:=mixKind X.prog X.w) (kvs:=vs) (ep:=ep) n ⟨od,es,e,c,d,q1,q2,q3⟩ ?_
  refine⟨s1.heap.objs.size,[s1.heap.objs.size],_,_,H1,rfl,I1.kept (t':=s1.toks) fun b o e=>Heap.get?_push_of_some _ e,turn_dict a _ od es ep d,⟨_,Heap.get?_push_size _ rfl,rfl,by rw[hsz];rfl⟩,fun b hb=>?_,q⟩
  have e:b=s1.heap.objs.size:=by simpa using hb
  subst e
  exact I1.fpOk (Nat.le_refl _) (I1.hok.fresh (Nat.le_refl _))
def signs (z:Str):List PV:=z.cps.toList.map fun c=>PV.str ⟨#[c]⟩
def itV:PV→(List PV→Prop)→Prop
 | .lst xs,P=>P xs
 | .tup xs,P=>P xs
 | .str z,P=>z.cps.all (·<128)=true∧P (signs z)
 | .dic kvs,P=>P (kvs.map Prod.fst)
 | _,_=>False
def uIt (ue:UE):UI:=fun A P=>ue A fun x A1=>itV x fun xs=>P xs (fun _=>True) A1
def itS:Option (Option Sl)→Nat→AS→(List PV→(AS→Prop)→AS→Prop)→Prop
 | some (some (.val x)),_,A,P=>itV x fun xs=>P xs (fun _=>True) A
 | some (some (.own a (.lst xs))),i,A,P=>P xs (fun A2=>A2.rho[i]?=some (some (.own a (.lst xs)))) A
 | some (some (.peek a (.lst xs))),i,A,P=>P xs (fun A2=>A2.rho[i]?=some (some (.peek a (.lst xs)))) A
 | _,_,_,_=>False
def uItN (i:Nat):UI:=fun A P=>itS A.rho[i]? i A P
def uRng (ue:UE):UI:=fun A P=>ue A fun x A1=>∃ n:Int,x=.int n∧n≤1000000000 ∧ -1000000000≤n∧P ((List.range n.toNat).map fun(k:Nat)=>PV.int k) (fun _=>True) A1
section
variable {X:Cx}{K:PySem.W.Frag}{e e2 tg:Expr}{pos p:Pos}{ue uf:UE}
theorem Rep.notd {A:AS}{H:Hp}{σ:St} (R:Rep K H σ A){a:Addr} (n:¬ AN A a):¬ ∃ st,A.S=some st∧st.d=a:=by
 rintro⟨st,h,rfl⟩
 exact n (.inl (R.st st h).1)
theorem Rep.keepC {A:AS}{H H2:Hp}{σ:St} (R:Rep K H σ A) (b:ButS A.S H H2):KeepV K (AN A) (fun a=>AN A a∨H a=none) H H2:=by
 refine⟨fun a vs h=>?_,fun a o n h=>⟨fun z=>z.elim n (zay h),b a o h (R.notd n)⟩⟩
 rcases h with h | h
 ·refine .inl (zdt (n:=∃ st,A.S=some st∧st.d=a) (fun o e m=>b a o e m) ?_ h)
  rintro⟨st,h1,rfl⟩
  obtain⟨kvs,e⟩:=(R.st st h1).2.1.dk
  rcases h with h | ⟨o,h⟩<;>(rw[e] at h;cases h)
 ·exact .inr h
theorem cm_l {A:AS}{H H2:Hp}{σ:St}{a:Addr}{xs:List PV}{vs:List V} (R:Rep K H σ A) (b:ButS A.S H H2) (h1:H2 a=some (.lst vs)) (h2:RVs K (AN A) H xs vs) :
  (∀ i x,xs[i]?=some x→(Itl K a).go i H2∧∀ v H',(Itl K a).yld i H2 v H'→Same H2 H'∧RV K (fun a=>AN A a∨H a=none) H' x v)∧(Itl K a).stop xs.length H2:=by
 refine⟨fun i x hx=>?_,⟨_,SqL.of h1,by rw[h2.len];exact Nat.le_refl _⟩⟩
 obtain⟨v,hv,rv⟩:=h2.at hx
 refine⟨⟨_,v,SqL.of h1,hv⟩,fun v' H' y=>?_⟩
 obtain⟨rfl,y⟩:=y
 have:=y _ (SqL.of h1)
 rw[hv] at this
 cases this
 exact⟨Same.refl _,rv.imp (R.keepC b)⟩
theorem it_lst {A:AS}{H:Hp}{σ:St}{a:Addr}{xs:List PV} (R:Rep K H σ A) (h:RV K (AN A) H (.lst xs) (.ref a)):ItOk K A H (Itl K a) xs fun _=>True where
 go:=fun σ2 A2 H2 R2 S2 _ i x hx=>by
  cases h.imp (R.keep S2) with
  | lst n h1 h2=>
   obtain⟨v,hv,rv⟩:=h2.at hx
   refine⟨⟨_,v,SqL.of h1,hv⟩,fun v' H' y=>?_⟩
   obtain⟨rfl,y⟩:=y
   have:=y _ (SqL.of h1)
   rw[hv] at this
   cases this
   exact⟨Same.refl _,rv⟩
 stop:=fun σ2 A2 H2 R2 S2 _=>by
  cases h.imp (R.keep S2) with
  | lst n h1 h2=>exact⟨_,SqL.of h1,by rw[h2.len];exact Nat.le_refl _⟩
 cm:=fun H2 b=>by
  cases h with
  | lst n h1 h2=>exact cm_l R b (b a _ h1 (R.notd n)) h2
theorem it_tup {A:AS}{H:Hp}{σ:St}{a:Addr}{xs:List PV} (R:Rep K H σ A) (h:RV K (AN A) H (.tup xs) (.ref a)):ItOk K A H (Itt K a) xs fun _=>True where
 go:=fun σ2 A2 H2 R2 S2 _ i x hx=>by
  cases h.imp (R.keep S2) with
  | tup h1 h2=>
   obtain⟨v,hv,rv⟩:=h2.at hx
   refine⟨⟨_,v,h1,hv⟩,fun v' H' y=>?_⟩
   obtain⟨rfl,y⟩:=y
   have:=y _ h1
   rw[hv] at this
   cases this
   exact⟨Same.refl _,rv⟩
 stop:=fun σ2 A2 H2 R2 S2 _=>by
  cases h.imp (R.keep S2) with
  | tup h1 h2=>exact⟨_,h1,by rw[h2.len];exact Nat.le_refl _⟩
 cm:=fun H2 b=>by
  cases h with
  | tup h1 h2=>
   have h1':=(R.keepC b).t _ _ h1
   refine⟨fun i x hx=>?_,⟨_,h1',by rw[h2.len];exact Nat.le_refl _⟩⟩
   obtain⟨v,hv,rv⟩:=h2.at hx
   refine⟨⟨_,v,h1',hv⟩,fun v' H' y=>?_⟩
   obtain⟨rfl,y⟩:=y
   have:=y _ h1'
   rw[hv] at this
   cases this
   exact⟨Same.refl _,rv.imp (R.keepC b)⟩
theorem it_oc {A:AS}{H:Hp}{σ:St}{a:Addr}{xs:List PV}{i:Nat}{s:Sl} (R:Rep K H σ A) (hA:A.rho[i]?=some (some s)) (hs:s=.own a (.lst xs)∨s=.peek a (.lst xs)):ItOk K A H (Itl K a) xs fun A2=>A2.rho[i]?=some (some s) where
 go:=fun σ2 A2 H2 R2 S2 hc i x hx=>by
  obtain⟨w,_,o⟩:=R2.sl _ _ hc
  have o':OcAt K (AN A2) H2 a (.lst xs):=by rcases hs with rfl | rfl<;>exact o.2.2
  obtain⟨vs,h1,h2⟩:=o'
  obtain⟨v,hv,rv⟩:=h2.at hx
  refine⟨⟨_,v,SqL.of h1,hv⟩,fun v' H' y=>?_⟩
  obtain⟨rfl,y⟩:=y
  have:=y _ (SqL.of h1)
  rw[hv] at this
  cases this
  exact⟨Same.refl _,rv⟩
 stop:=fun σ2 A2 H2 R2 S2 hc=>by
  obtain⟨w,_,o⟩:=R2.sl _ _ hc
  have o':OcAt K (AN A2) H2 a (.lst xs):=by rcases hs with rfl | rfl<;>exact o.2.2
  obtain⟨vs,h1,h2⟩:=o'
  exact⟨_,SqL.of h1,by rw[h2.len];exact Nat.le_refl _⟩
 cm:=fun H2 b=>by
  obtain⟨w,_,o⟩:=R.sl _ _ hA
  have nd:¬ ∃ st,A.S=some st∧st.d=a:=by
   rintro⟨st,h,rfl⟩
   rcases hs with rfl | rfl
   ·exact o.2.1 (R.st st h).1
   ·exact R.pk _ _ _ st hA h rfl
  have o':OcAt K (AN A) H a (.lst xs):=by rcases hs with rfl | rfl<;>exact o.2.2
  obtain⟨vs,h1,h2⟩:=o'
  exact cm_l R b (b a _ h1 nd) h2
theorem RKs.at {N:Addr→Prop}{H:Hp}{xs:List (PV×PV)}{vs:List (V×V)} (h:RKs K N H xs vs){i:Nat}{x:PV} (e:(xs.map Prod.fst)[i]?=some x):∃ v,vs[i]?=some v∧RV K N H x v.1:=by
 induction vs generalizing xs i with
 | nil=>cases h;simp at e
 | cons v vs ih=>
  cases h with
  | cons h1 h2 h3=>
   cases i with
   | zero=>simp at e;subst e;exact⟨_,rfl,h1⟩
   | succ i=>exact ih h3 (by simpa using e)
theorem RKs.len0 {N:Addr→Prop}{H:Hp}{xs:List (PV×PV)}{vs:List (V×V)} (h:RKs K N H xs vs):xs.length=vs.length:=by
 induction vs generalizing xs with
 | nil=>cases h;rfl
 | cons v vs ih=>cases h with | cons h1 h2 h3=>rw[List.length_cons,List.length_cons,ih h3]
theorem zdV {N:Addr→Prop}{H2:Hp}{a:Addr}{od:Obj}{kvs:List (PV×PV)}{kws:List (Key×V)} (h1:H2 a=some (.frz od (.dK kws))) (h2:RKs K N H2 kvs (kws.map fun kv=>(kV kv.1,kv.2))) :
  (∀ i x,(kvs.map Prod.fst)[i]?=some x→(Itd a od).go i H2∧∀ v H',(Itd a od).yld i H2 v H'→Same H2 H'∧RV K N H' x v)∧(Itd a od).stop (kvs.map Prod.fst).length H2:=by
 have l:=h2.len0
 rw[List.length_map] at l
 refine⟨fun i x hx=>?_,⟨kws,h1,by rw[List.length_map,l];exact Nat.le_refl _⟩⟩
 obtain⟨v,hv,rv⟩:=h2.at hx
 rw[List.getElem?_map] at hv
 obtain⟨kv,hkv,rfl⟩:=Option.map_eq_some_iff.mp hv
 refine⟨⟨kws,kv,h1,hkv⟩,fun v' H' y=>?_⟩
 obtain⟨rfl,y⟩:=y
 obtain⟨kv',e1,rfl⟩:=y kws h1
 rw[hkv] at e1
 cases e1
 exact⟨Same.refl _,rv⟩
theorem it_dic {A:AS}{H:Hp}{σ:St}{a:Addr}{od:Obj}{kvs:List (PV×PV)}{kws:List (Key×V)} (R:Rep K H σ A) (n:¬ AN A a) (h1:H a=some (.frz od (.dK kws))) (h2:RKs K (AN A) H kvs (kws.map fun kv=>(kV kv.1,kv.2))):ItOk K A H (Itd a od) (kvs.map Prod.fst) fun _=>True where
 go:=fun σ2 A2 H2 R2 S2 _ i x hx=>by
  have k:=R.keep S2
  exact(zdV (k.l _ _ n h1).2 (h2.imp k)).1 i x hx
 stop:=fun σ2 A2 H2 R2 S2 _=>by
  have k:=R.keep S2
  exact(zdV (k.l _ _ n h1).2 (h2.imp k)).2
 cm:=fun H2 b=>by
  have k:=R.keepC b
  have z:=zdV (N:=fun a=>AN A a∨H a=none) (k.l _ _ n h1).2 (h2.imp k)
  exact z
theorem it_str {A:AS}{H:Hp}{z:Str}:ItOk K A H (Its z) (signs z) fun _=>True where
 go:=fun σ2 A2 H2 R2 S2 _ i x hx=>by
  unfold signs at hx
  rw[List.getElem?_map] at hx
  obtain⟨c,hc,rfl⟩:=Option.map_eq_some_iff.mp hx
  have hc':z.cps[i]?=some c:=by simpa using hc
  refine⟨?_,?_⟩
  ·show i<z.cps.size
   rcases Nat.lt_or_ge i z.cps.size with q | q
   ·exact q
   ·rw[Array.getElem?_eq_none q] at hc';cases hc'
  ·rintro v H' ⟨rfl,c',h1,rfl⟩
   rw[hc'] at h1
   cases h1
   exact⟨Same.refl _,.str _⟩
 stop:=fun σ2 A2 H2 R2 S2 _=>by
  show z.cps.size≤_
  unfold signs
  simp
 cm:=fun H2 b=>⟨fun i x hx=>by
  unfold signs at hx
  rw[List.getElem?_map] at hx
  obtain⟨c,hc,rfl⟩:=Option.map_eq_some_iff.mp hx
  have hc':z.cps[i]?=some c:=by simpa using hc
  refine⟨?_,?_⟩
  ·show i<z.cps.size
   rcases Nat.lt_or_ge i z.cps.size with q | q
   ·exact q
   ·rw[Array.getElem?_eq_none q] at hc';cases hc'
  ·rintro v H' ⟨rfl,c',h1,rfl⟩
   rw[hc'] at h1
   cases h1
   exact⟨Same.refl _,.str _⟩,by
  show z.cps.size≤_
  unfold signs
  simp⟩
theorem it_rng {A:AS}{H:Hp}{lo:Int}{n:Nat}:ItOk K A H (Itr lo n) ((List.range n).map fun(k:Nat)=>PV.int (lo+k)) fun _=>True where
 go:=fun σ2 A2 H2 R2 S2 _ i x hx=>by
  rw[List.getElem?_map] at hx
  obtain⟨c,hc,rfl⟩:=Option.map_eq_some_iff.mp hx
  obtain⟨hi,e⟩:=List.getElem?_eq_some_iff.mp hc
  have e':i=c:=by simpa using e
  subst e'
  refine⟨(by simpa using hi:i<n),?_⟩
  rintro v H' ⟨rfl,rfl⟩
  exact⟨Same.refl _,.int _⟩
 stop:=fun σ2 A2 H2 R2 S2 _=>by
  show n≤_
  simp
 cm:=fun H2 b=>⟨fun i x hx=>by
  rw[List.getElem?_map] at hx
  obtain⟨c,hc,rfl⟩:=Option.map_eq_some_iff.mp hx
  obtain⟨hi,e⟩:=List.getElem?_eq_some_iff.mp hc
  have e':i=c:=by simpa using e
  subst e'
  refine⟨(by simpa using hi:i<n),?_⟩
  rintro v H' ⟨rfl,rfl⟩
  exact⟨Same.refl _,.int _⟩,by
  show n≤_
  simp⟩
theorem iv (hK:X.K=K) (h:PE X e (liftV K ue)):PI X tg e (liftI K (uIt ue)):=by
 subst hK
 refine(pi_seq h).mono fun σ H Q ⟨A,P,R,h,c⟩=>⟨A,_,R,h,fun x A1 v H1 p R1 S1 rv=>?_⟩
 cases x with
 | lst xs=>cases rv with | lst n h1 h2=>exact .inl ⟨_,rfl,⟨_,SqL.of h1⟩,c xs _ A1 _ H1 p R1 S1 (it_lst R1 (.lst n h1 h2))⟩
 | tup xs=>cases rv with | tup h1 h2=>exact .inr (.inl ⟨_,rfl,⟨_,h1⟩,c xs _ A1 _ H1 p R1 S1 (it_tup R1 (.tup h1 h2))⟩)
 | str z=>cases rv;exact .inr (.inr (.inl ⟨z,rfl,p.1,c _ _ A1 _ H1 p.2 R1 S1 it_str⟩))
 | dic kvs=>
  cases rv with
  | dic n hD h2=>
   obtain⟨kws,od,h1,rfl⟩:=hD
   exact .inr (.inr (.inr ⟨_,od,kws,rfl,h1,c _ _ A1 _ H1 p R1 S1 (it_dic R1 n h1 h2)⟩))
 | _=>exact p.elim
theorem i_n (hK:X.K=K) (i:Nat){x:Str} (hN:X.N[i]?=some x:=by rfl) (hv:Vis X.env.scope x:=by first | exact Or.inl rfl | exact Or.inr (Or.inl rfl) | exact Or.inr (Or.inr rfl)) (hd:(x==("__debug__":Str))=false:=by decide)
  (hcd:(x==("__classdict__":Str))=false:=by decide):PI X tg (.Name x pos) (liftI K (uItN i)):=by
 subst hK
 refine(pi_seq (zat hN hv hd hcd)).mono fun σ H Q ⟨A,P,R,h,c⟩=>?_
 have h':itS A.rho[i]? i A P:=h
 cases hx:A.rho[i]? with
 | none=>rw[hx] at h';exact h'.elim
 | some o=>
  cases o with
  | none=>rw[hx] at h';exact h'.elim
  | some s=>
   rw[hx] at h'
   cases s with
   | val x=>
    obtain⟨v,e,q⟩:=R.sl i _ hx
    cases x with
    | lst xs=>cases (show RV X.K (AN A) H (.lst xs) v from q) with | lst n h1 h2=>exact⟨_,e,.inl ⟨_,rfl,⟨_,SqL.of h1⟩,c xs _ A _ H h' R (Stp.refl A H) (it_lst R (.lst n h1 h2))⟩⟩
    | tup xs=>cases (show RV X.K (AN A) H (.tup xs) v from q) with | tup h1 h2=>exact⟨_,e,.inr (.inl ⟨_,rfl,⟨_,h1⟩,c xs _ A _ H h' R (Stp.refl A H) (it_tup R (.tup h1 h2))⟩)⟩
    | str z=>
     cases (show RV X.K (AN A) H (.str z) v from q)
     exact⟨_,e,.inr (.inr (.inl ⟨z,rfl,h'.1,c _ _ A _ H h'.2 R (Stp.refl A H) it_str⟩))⟩
    | dic kvs=>
     cases (show RV X.K (AN A) H (.dic kvs) v from q) with
     | dic n hD h2=>
      obtain⟨kws,od,h1,rfl⟩:=hD
      exact⟨_,e,.inr (.inr (.inr ⟨_,od,kws,rfl,h1,c _ _ A _ H h' R (Stp.refl A H) (it_dic R n h1 h2)⟩))⟩
    | _=>exact h'.elim
   | own a oc=>
    cases oc with
    | lst xs=>
     obtain⟨v,e,rfl,_,vs,h1,h2⟩:=R.sl i _ hx
     exact⟨_,e,.inl ⟨_,rfl,⟨_,SqL.of h1⟩,c xs _ A _ H h' R (Stp.refl A H) (it_oc R hx (.inl rfl))⟩⟩
    | dic _=>exact h'.elim
    | ins _ _ _=>exact h'.elim
   | peek a oc=>
    cases oc with
    | lst xs=>
     obtain⟨v,e,rfl,_,vs,h1,h2⟩:=R.sl i _ hx
     exact⟨_,e,.inl ⟨_,rfl,⟨_,SqL.of h1⟩,c xs _ A _ H h' R (Stp.refl A H) (it_oc R hx (.inr rfl))⟩⟩
    | dic _=>exact h'.elim
    | ins _ _ _=>exact h'.elim
theorem i_rng (hg:Gl X "range") (hm:X.mg "range"=none) (h:PE X e (liftV K ue)) (hs:starEach [e] X.env=[(false,eval e X.env)]:=by rfl):PI X tg (.Call (.Name "range" p) [e] [] pos) (liftI K (uRng ue)):=by
 refine(pi_range1 hg hm (zad h pa_nil hs) hs).mono fun σ H Q ⟨A,P,R,h,c⟩=>⟨A,_,R,h,fun x A1 v H1 q R1 S1 rv=>?_⟩
 obtain⟨n,rfl,n1,n2,q⟩:=q
 cases rv
 refine⟨n,rfl,by omega,by omega,c _ _ A1 _ H1 q R1 S1 ?_⟩
 have:=it_rng (K:=K) (A:=A1) (H:=H1) (lo:=0) (n:=n.toNat)
 simpa using this
end
def forB (xs:List PV) (C:AS→Prop) (A1:AS) (g:UG) (ub:US) (E:UEnds):Prop:=∃ I:List PV→AS→Prop,I [] A1∧(∀ d A2,I d A2→C A2) ∧
 (∀ d x r A2,xs=d++x::r→I d A2→g x A2 fun A3=>ub { E with nx:=I (d++[x]),ct:=I (d++[x]),bk:=E.nx } A3)∧∀ A2,I xs A2→E.nx A2
def uFor (ui:UI) (g:UG) (ub:US):US:=fun E A=>ui A fun xs C A1=>forB xs C A1 g ub E
def uWhile (t:UT) (ub:US):US:=fun E A=>∃ (I:AS→Prop) (μ:AS→Nat),I A∧∀ A1,I A1→t A1 fun k A2=>if k=true then ub { E with nx:=fun A3=>I A3∧μ A3<μ A1,ct:=fun A3=>I A3∧μ A3<μ A1,bk:=E.nx } A2 else E.nx A2
section
variable {X:Cx}{K:PySem.W.Frag}{tg iter c:Expr}{body:List Stmt}{ui:UI}{g:UG}{ub:US}{t:UT}{pos:Pos}
theorem s_for (hp:PassesOwn (model X.prog X.w) X.A X.env X.xe) (hc:X.calm=true) (hi:PI X tg iter (liftI K ui)) (hg:PG X tg (liftG K g)) (hb:PSs X body (liftS K ub)) (hs:∀ x,foldedSetIterable iter X.env x=pure x:=by intro _;rfl) :
  PS X (.For tg iter body [] pos) (liftS K (uFor ui g ub)):=by
 refine(ps_for hp hc hi hg hb hs).mono fun D σ H ⟨A,E,R,h,k⟩=>⟨A,_,R,h,fun xs C A1 J H1 p R1 S1 ok=>?_⟩
 obtain⟨I,i0,iC,step,fin⟩:=p
 refine⟨fun i m σ' H'=>m=xs.length-i∧i≤xs.length∧∃ A2,I (xs.take i) A2∧Rep K H' σ' A2∧Stp A1 H1 A2 H',⟨_,rfl,Nat.zero_le _,A1,i0,R1,Stp.refl A1 H1⟩,?_⟩
 rintro i m σ' H' ⟨rfl,hi,A2,hI,R2,S2⟩
 by_cases hlt:i<xs.length
 ·obtain⟨go,yld⟩:=ok.go σ' A2 H' R2 S2 (iC _ _ hI) i xs[i] (List.getElem?_eq_getElem hlt)
  refine .inr ⟨go,fun σ'' H''=>∃ A3,I (xs.take (i+1)) A3∧Rep K H'' σ'' A3∧Stp A1 H1 A3 H'',fun σ'' H'' q=>⟨xs.length-(i+1),by omega,rfl,hlt,q⟩,fun v H3 y=>?_⟩
  obtain⟨s,rv⟩:=yld v H3 y
  have eT:xs.take (i+1)=xs.take i++[xs[i]]:=by rw[List.take_add_one,List.getElem?_eq_getElem hlt];rfl
  refine⟨xs[i],A2,_,R2.same s,rv,step (xs.take i) xs[i] (xs.drop (i+1)) A2 (by simp) hI,fun A3 σ3 p3 R3 S3=>⟨A3,_,R3,p3,?_⟩⟩
  have S03:Stp A1 H1 A3 H3:=S2.trans ((Stp.same A2 s).trans S3)
  have k3:=k.step (S1.trans S03)
  exact⟨fun A4 σ4 H4 q R4 S4=>⟨A4,by rw[eT];exact q,R4,S03.trans S4⟩,k3.rt,k3.rf,k3.ro,k3.nx,fun A4 σ4 H4 q R4 S4=>⟨A4,by rw[eT];exact q,R4,S03.trans S4⟩⟩
 ·have e:i=xs.length:=by omega
  subst e
  rw[List.take_length] at hI
  exact .inl ⟨ok.stop σ' A2 H' R2 S2 (iC _ _ hI),k.nx A2 σ' H' (fin A2 hI) R2 (S1.trans S2)⟩
theorem zeQ (hp:PassesOwn (model X.prog X.w) X.A X.env X.xe) (hc:PT X c (liftT K t)) (hb:PSs X body (liftS K ub)):PS X (.While c body [] pos) (liftS K (uWhile t ub)):=by
 refine(zfz hp hc hb).mono fun D σ H ⟨A,E,R,h,k⟩=>?_
 obtain⟨I,μ,i0,step⟩:=h
 refine⟨fun m σ' H'=>∃ A1,m=μ A1∧I A1∧Rep K H' σ' A1∧Stp A H A1 H',⟨_,A,rfl,i0,R,Stp.refl A H⟩,?_⟩
 rintro m σ' H' ⟨A1,rfl,hI,R1,S1⟩
 refine⟨A1,_,R1,step A1 hI,fun b A2 H2 p R2 S2=>?_⟩
 have k2:=k.step (S1.trans S2)
 cases b with
 | true=>
  refine⟨fun σ'' H''=>∃ A3,(I A3∧μ A3<μ A1)∧Rep K H'' σ'' A3∧Stp A H A3 H'',?_,?_⟩
  ·rintro σ'' H'' ⟨A3,⟨q1,q2⟩,R3,S3⟩
   exact⟨μ A3,q2,A3,rfl,q1,R3,S3⟩
  ·exact⟨A2,_,R2,p,⟨fun A4 σ4 H4 q R4 S4=>⟨A4,q,R4,S1.trans (S2.trans S4)⟩,k2.rt,k2.rf,k2.ro,k2.nx,fun A4 σ4 H4 q R4 S4=>⟨A4,q,R4,S1.trans (S2.trans S4)⟩⟩⟩
 | false=>exact k2.nx A2 σ' H2 p R2 (Stp.refl A2 H2)
end
end L2
namespace L2
open PySem PySem.Spec PyProof.Rows
def Sl.cap:Sl→Sl
 | .own a c=>.peek a c
 | s=>s
def caps (ix:List Nat) (rho:List (Option Sl)):List (Option Sl):=ix.map fun j=>((rho[j]?).join).map Sl.cap
def inn (k:Nat) (ix:List Nat) (rho:List (Option Sl)):List (Option Sl):=List.replicate k none++caps ix rho
def Kp (k:Nat) (ix:List Nat) (rho:List (Option Sl)) (A:AS):Prop:=A.rho.length=k+ix.length∧A.rho.drop k=caps ix rho
def uYes:UT:=fun A Q=>Q true A
def compB (k:Nat) (ix:List Nat) (xs:List PV) (A1:AS) (g:UG) (t:UT) (ue:UE) (Q:PV→AS→Prop):Prop:=xs.length≤1000000∧∃ I:List PV→List PV→Option SSt→Prop,I [] [] A1.S ∧
 (∀ B d x r ys S,xs=d++x::r→I d ys S→g x ⟨B,inn k ix A1.rho,S⟩ fun A2=>t A2 fun b A3=>if b=true then ue A3 fun y A4=>Kp k ix A1.rho A4∧I (d++[x]) (ys++[y]) A4.S else Kp k ix A1.rho A3∧I (d++[x]) ys A3.S) ∧
 ∀ ys S,I xs ys S→Q (.lst ys) { A1 with S:=S }
def uComp (k:Nat) (ix:List Nat) (ui:UI) (g:UG) (t:UT) (ue:UE):UE:=fun A Q=>ui A fun xs _ A1=>compB k ix xs A1 g t ue Q
def erase (H:Hp) (p:Addr):Hp:=fun b=>if b=p then none else H b
theorem zax (H:Hp) (p:Addr):erase H p p=none:=if_pos rfl
theorem zag {H:Hp}{p b:Addr} (h:b≠p):erase H p b=H b:=if_neg h
section
variable {K:PySem.W.Frag}{H H1 H2:Hp}{σ:St}{A:AS}
theorem ButS.stp (R:Rep K H σ A){S:Option SSt} (hs:S.map SSt.d=A.S.map SSt.d) (hst:∀ st,S=some st→StAt H1 st.d st.a st.n st.b∧ScrF K H1 st.a) (b:ButS A.S H H1):Rep K H1 σ { A with S:=S }∧Stp A H { A with S:=S } H1:=by
 have dm:∀ a,H a≠none→H1 a≠none:=fun a h=>by
  by_cases e:∃ st,A.S=some st∧st.d=a
  ·obtain⟨st',h1,h2⟩:=sd_d hs.symm e
   obtain⟨kvs,q⟩:=(hst st' h1).1.dk
   rw[← h2]
   exact zay q
  ·cases q:H a with
   | none=>exact absurd q h
   | some o=>exact zay (b a o q e)
 have S0:Stp A H { A with S:=S } H1:=⟨fun a o h m=>b a o h fun z=>m (.inr z),fun _ h=>.inl h,rfl,dm,hs⟩
 have kp:=R.keep S0
 refine⟨⟨R.len,fun i s h=>?_,fun a h=>dm a (R.dom a h),R.nd,fun st h=>?_,fun i a c st h1 h2=>?_⟩,S0⟩
 ·obtain⟨v,e,q⟩:=R.sl i s h
  refine⟨v,e,?_⟩
  cases s with
  | val x=>exact q.imp kp
  | own a c=>exact⟨q.1,q.2.1,q.2.2.imp kp fun o h=>b a o h fun⟨st,z1,z2⟩=>q.2.1 (by rw[← z2];exact(R.st st z1).1)⟩
  | peek a c=>exact⟨q.1,q.2.1,q.2.2.imp kp fun o h2=>b a o h2 fun⟨st,z1,z2⟩=>R.pk i a c st h z1 z2.symm⟩
 ·obtain⟨st',h1,h2⟩:=sd_d hs ⟨st,h,rfl⟩
  exact⟨by show A.B st.d;rw[← h2];exact(R.st st' h1).1,(hst st h).1,(hst st h).2⟩
 ·obtain⟨st',h3,h4⟩:=sd_d hs ⟨st,h2,rfl⟩
  rw[← h4]
  exact R.pk i a c st' h1 h3
theorem Rep.drop (R:Rep K H σ A){k:Nat}{cs:List (Option Sl)} (e:A.rho.drop k=cs) (hk:k≤A.rho.length):Rep K H σ { A with rho:=List.replicate k none++cs }∧∀ a,Own (List.replicate k none++cs) a→Own A.rho a:=by
 have at':∀ i s,(List.replicate k none++cs)[i]?=some (some s)→A.rho[i]?=some (some s):=fun i s h=>by
  by_cases hi:i<k
  ·rw[List.getElem?_append_left (by simpa using hi),List.getElem?_replicate,if_pos hi] at h
   cases h
  ·rw[List.getElem?_append_right (by simpa using (Nat.le_of_not_lt hi)),List.length_replicate,← e,List.getElem?_drop] at h
   rwa [show k+(i-k)=i by omega] at h
 have ow:∀ a,Own (List.replicate k none++cs) a→Own A.rho a:=fun a ⟨i,c,h⟩=>⟨i,c,at' i _ h⟩
 have kp:KeepV K (AN A) (AN { A with rho:=List.replicate k none++cs }) H H:=⟨fun _ _ h=>h,fun _ _ n h=>⟨fun z=>n (z.elim .inl fun y=>.inr (ow _ y)),h⟩⟩
 refine⟨⟨?_,fun i s h=>?_,R.dom,fun i j a c c' h1 h2=>R.nd i j a c c' (at' i _ h1) (at' j _ h2),R.st,fun i a c st h1 h2=>R.pk i a c st (at' i _ h1) h2⟩,ow⟩
 ·rw[R.len]
  show _=(List.replicate k none++cs).length
  rw[← e,List.length_append,List.length_replicate,List.length_drop]
  omega
 ·obtain⟨v,e1,q⟩:=R.sl i s (at' i s h)
  refine⟨v,e1,?_⟩
  cases s with
  | val x=>exact q.imp kp
  | own b c=>exact⟨q.1,q.2.1,q.2.2.imp kp fun _ h=>h⟩
  | peek b c=>exact⟨q.1,q.2.1,q.2.2.imp kp fun _ h=>h⟩
theorem cap_at {ix:List Nat}{rho:List (Option Sl)}{i:Nat}{s:Sl} (h:(caps ix rho)[i]?=some (some s)):∃ j t,ix[i]?=some j∧rho[j]?=some (some t)∧s=t.cap:=by
 unfold caps at h
 rw[List.getElem?_map] at h
 obtain⟨j,hj,e⟩:=Option.map_eq_some_iff.mp h
 obtain⟨t,ht,e2⟩:=Option.map_eq_some_iff.mp e
 refine⟨j,t,hj,?_,e2.symm⟩
 cases q:rho[j]? with
 | none=>rw[q] at ht;cases ht
 | some o=>rw[q] at ht;exact congrArg some ht
theorem zfL {k:Nat}{ix:List Nat}{rho:List (Option Sl)}{i:Nat}{s:Sl} (h:(inn k ix rho)[i]?=some (some s)):∃ i' j t,i=k+i'∧ix[i']?=some j∧rho[j]?=some (some t)∧s=t.cap:=by
 unfold inn at h
 by_cases hi:i<k
 ·rw[List.getElem?_append_left (by simpa using hi),List.getElem?_replicate,if_pos hi] at h
  cases h
 ·rw[List.getElem?_append_right (by simpa using (Nat.le_of_not_lt hi)),List.length_replicate] at h
  obtain⟨j,t,h1,h2,h3⟩:=cap_at h
  exact⟨i-k,j,t,by omega,h1,h2,h3⟩
theorem zbC {k:Nat}{ix:List Nat}{rho:List (Option Sl)}{a:Addr}:¬ Own (inn k ix rho) a:=by
 rintro⟨i,c,h⟩
 obtain⟨_,_,t,_,_,_,e⟩:=zfL h
 cases t<;>cases e
theorem OcAt.some {N:Addr→Prop}{a:Addr}{c:OC} (h:OcAt K N H a c):H a≠none:=by
 cases c with
 | lst xs=>obtain⟨vs,h,_⟩:=h;exact zay h
 | dic xs=>obtain⟨vs,h,_⟩:=h;exact zay h
 | ins _ _ xs=>obtain⟨vs,h,_⟩:=h;exact zay h
theorem zdm {a acc:Addr}{us vs ws:List V} (ha:H acc=Option.some (.lst vs)) (h:SqT K H a us):SqT K (upd H acc (.lst ws)) a us:=by
 rcases h with h | h
 ·refine .inl ?_
  rcases h with h | ⟨o,h⟩
  ·exact .inl (by rw[zac fun e=>by rw[e,ha] at h;cases h];exact h)
  ·exact .inr ⟨o,by rw[zac fun e=>by rw[e,ha] at h;cases h];exact h⟩
 ·exact .inr h
theorem Rep.updB (R:Rep K H σ A){acc:Addr}{vs ws:List V} (ha:H acc=Option.some (.lst vs)) (hB:A.B acc) (hp:∀ (i:Nat) (a:Addr) (c:OC),A.rho[i]?=Option.some (Option.some (Sl.peek a c))→a≠acc):Rep K (upd H acc (.lst ws)) σ A:=by
 have kp:KeepV K (AN A) (AN A) H (upd H acc (.lst ws)):=⟨fun a us h=>zdm ha h,fun a o n h=>⟨n,by rw[zac fun e=>n (by rw[e];exact .inl hB)];exact h⟩⟩
 refine⟨R.len,fun i s h=>?_,fun a h=>?_,R.nd,fun st h=>?_,R.pk⟩
 ·obtain⟨v,e,q⟩:=R.sl i s h
  refine⟨v,e,?_⟩
  cases s with
  | val x=>exact q.imp kp
  | own a c=>exact⟨q.1,q.2.1,q.2.2.imp kp fun o h=>by rw[zac fun e=>q.2.1 (by rw[e];exact hB)];exact h⟩
  | peek a c=>exact⟨q.1,q.2.1,q.2.2.imp kp fun o h2=>by rw[zac (hp i a c h)];exact h2⟩
 ·by_cases e:a=acc
  ·rw[e,zab];intro z;cases z
  ·rw[zac e];exact R.dom a h
 ·obtain⟨h1,h2,h3⟩:=R.st st h
  refine⟨h1,h2.upd (fun e=>?_) (fun ps z=>by rw[ha] at z;cases z),h3.keepF fun o u z=>?_⟩
  ·obtain⟨kvs,q⟩:=h2.dk
   rw[← e,ha] at q
   cases q
  ·rw[zac fun e=>by rw[e,ha] at z;cases z]
   exact z
theorem Rep.inner (R:Rep K H σ A){acc:Addr} (hacc:H acc=none) (k:Nat) (ix:List Nat):Rep K (upd H acc (.lst [])) (subSt k ix σ) ⟨fun b=>AN A b∨b=acc,inn k ix A.rho,A.S⟩:=by
 have s:Same H (upd H acc (.lst [])):=zam hacc _
 have R1:=R.same s
 have na:∀ a o,H a=some o→a≠acc:=fun a o h=>zae h hacc
 have kp:KeepV K (AN A) (AN ⟨fun b=>AN A b∨b=acc,inn k ix A.rho,A.S⟩) H (upd H acc (.lst [])):=⟨(zan (K:=K) (N:=AN A) s).t,fun a o n h=>⟨fun z=>by
  rcases z with (z | z) | z
  ·exact n z
  ·exact na a o h z
  ·exact zbC z,s a o h⟩⟩
 refine⟨?_,fun i t h=>?_,fun a h=>?_,fun i j a c c' h _=>absurd ⟨i,c,h⟩ zbC,fun st h=>?_,fun i a c st h1 h2=>?_⟩
 ·show(subSt k ix σ).length=(inn k ix A.rho).length
  unfold subSt inn caps
  rw[List.length_append,List.length_append,List.length_map,List.length_map,List.length_replicate,List.length_replicate]
 ·obtain⟨i',j,t',rfl,h1,h2,rfl⟩:=zfL h
  obtain⟨v,e,q⟩:=R.sl j _ h2
  refine⟨v,?_,?_⟩
  ·unfold subSt
   rw[List.getElem?_append_right (by simp),List.length_replicate,List.getElem?_map,show k+i'-k=i' by omega,h1]
   show some ((σ[j]?).join)=_
   rw[e]
   rfl
  ·cases t' with
   | val x=>exact q.imp kp
   | own a c=>exact⟨q.1,.inl (.inr ⟨j,c,h2⟩),q.2.2.imp kp fun o=>s a o⟩
   | peek a c=>exact⟨q.1,.inl (.inl q.2.1),q.2.2.imp kp fun o=>s a o⟩
 ·rcases h with h | h
  ·rcases h with h | h
   ·exact R1.dom a h
   ·rcases R.own_at h with ⟨z,e⟩ | ⟨z,e⟩ | ⟨_,_,z,e⟩
    ·exact zay (s _ _ e)
    ·exact zay (s _ _ e)
    ·exact zay (s _ _ e)
  ·subst h;rw[zab];intro z;cases z
 ·obtain⟨h1,h2,h3⟩:=R1.st st h
  exact⟨.inl (.inl h1),h2,h3⟩
 ·obtain⟨i',j,t,rfl,h3,h4,e⟩:=zfL h1
  cases t with
  | val x=>cases e
  | own b c=>cases e;intro z;obtain⟨_,_,_,nb,_⟩:=R.sl j _ h4;exact nb (by rw[z];exact(R.st st h2).1)
  | peek b c=>cases e;exact R.pk j _ _ st h4 h2
theorem comp_core {J:It}{g:UG}{t:UT}{ue:UE}{k:Nat}{ix:List Nat}{acc:Addr}{xs:List PV}{C:AS→Prop}{Q:VK}{I:List PV→List PV→Option SSt→Prop}{fin:PV→AS→Prop} (R:Rep K H σ A) (ok:ItOk K A H J xs C) (hacc:H acc=none)
  (few:xs.length≤1000000) (i0:I [] [] A.S)
  (step:∀ B d x r ys S,xs=d++x::r→I d ys S→g x ⟨B,inn k ix A.rho,S⟩ fun A2=>t A2 fun b A3=>if b=true then ue A3 fun y A4=>Kp k ix A.rho A4∧I (d++[x]) (ys++[y]) A4.S else Kp k ix A.rho A3∧I (d++[x]) ys A3.S)
  (hfin:∀ ys S,I xs ys S→fin (.lst ys) { A with S:=S }) (q:∀ zs A1 v H0 H1,fin (.lst zs) A1→Rep K H0 σ A1→Stp A H A1 H0→FrV K (AN A1) H0 H1 (.lst zs) v→Q v H1) :
  bComp J (liftG K g) (liftT K t) (liftV K ue) acc Q (subSt k ix σ) (upd H acc (.lst [])):=by
 let B:Addr→Prop:=fun b=>AN A b∨b=acc
 have na:∀ a o,H a=some o→a≠acc:=fun a o h=>zae h hacc
 refine zfn xs.length (fun i σ' H'=>∃ ys vs S,I (xs.take i) ys S∧Rep K H' σ' ⟨B,inn k ix A.rho,S⟩∧H' acc=some (.lst vs)∧RVs K B H' ys vs∧vs.length≤i∧ButS A.S H H'∧S.map SSt.d=A.S.map SSt.d)
  ⟨[],[],A.S,i0,R.inner hacc k ix,zab,.nil,Nat.le_refl _,fun b o h _=>by rw[zac (na b o h)];exact h,rfl⟩ ?_ ?_
 ·rintro σ' H' ⟨ys,vs,S,hI,R',ha,rs,_,bs,hs⟩
  rw[List.take_length] at hI
  refine⟨(ok.cm H' bs).2,?_⟩
  -- the heap without the new list
  have be:ButS A.S H (erase H' acc):=fun b o h n=>by rw[zag (na b o h)];exact bs b o h n
  have ste:∀ st,S=some st→StAt (erase H' acc) st.d st.a st.n st.b∧ScrF K (erase H' acc) st.a:=fun st h=>by
   obtain⟨_,h1,h2⟩:=R'.st st h
   obtain⟨st',e1,e2⟩:=sd_d hs ⟨st,h,rfl⟩
   obtain⟨kvs,hd⟩:=(R.st st' e1).2.1.dk
   have nd:st.d≠acc:=by rw[← e2];exact na _ _ hd
   refine⟨?_,?_⟩
   ·obtain⟨t,l,w,e,r⟩:=h1.ex
    exact⟨⟨t,l,w,by rw[zag nd];exact e,r⟩,fun T o z=>⟨by
     rw[zag fun y=>by
      have q:=(h1.tb T o z).1
      rw[y,ha] at q
      cases q]
     exact(h1.tb T o z).1,(h1.tb T o z).2⟩⟩
   ·exact h2.keepF fun o u h2=>by
     rw[zag fun e=>by rw[e,ha] at h2;cases h2]
     exact h2
  obtain⟨R3,S3⟩:=ButS.stp R hs ste be
  refine q ys _ _ (erase H' acc) H' (hfin ys S hI) R3 S3 ⟨acc,.lst ys,rfl,rfl,zax _ _,fun b o h=>?_,vs,ha,rs.imp ⟨fun a vs h=>?_,fun a o n h=>?_⟩⟩
  ·by_cases e:b=acc
   ·subst e;rw[zax] at h;cases h
   ·rw[zag e] at h;exact h
  ·rcases h with h | h
   ·refine .inl ?_
    rcases h with h | ⟨o,h⟩
    ·exact .inl (by rw[zag fun e=>by rw[e,ha] at h;cases h];exact h)
    ·exact .inr ⟨o,by rw[zag fun e=>by rw[e,ha] at h;cases h];exact h⟩
   ·exact .inr h
  ·refine⟨fun z=>n (.inl z),?_⟩
   rw[zag fun e=>n (.inr e)]
   exact h
 ·rintro i σ' H' hi ⟨ys,vs,S,hI,R',ha,rs,lv,bs,hs⟩
  obtain⟨go,yld⟩:=(ok.cm H' bs).1 i xs[i] (List.getElem?_eq_getElem hi)
  refine⟨go,fun v H3 y=>?_⟩
  obtain⟨s,rv⟩:=yld v H3 y
  have eT:xs.take (i+1)=xs.take i++[xs[i]]:=by rw[List.take_add_one,List.getElem?_eq_getElem hi];rfl
  have R3:=R'.same s
  have an0:∀ a,AN ⟨B,inn k ix A.rho,S⟩ a→AN A a∨H a=none:=fun a z=>z.elim (fun y=>y.imp id fun e=>by rw[e];exact hacc) fun z=>absurd z zbC
  have rv':RV K (AN ⟨B,inn k ix A.rho,S⟩) H3 xs[i] v:=rv.imp ⟨fun _ _ h=>h,fun a o n h=>⟨fun z=>n (an0 a z),h⟩⟩
  have notMt:¬ Mt ⟨B,inn k ix A.rho,S⟩ acc:=by
   rintro(z | ⟨st,z1,z2⟩)
   ·exact zbC z
   ·obtain⟨kvs,e⟩:=(R'.st st z1).2.1.dk
    rw[z2,ha] at e
    cases e
  have bsx:∀ {H6:Hp}{A4:AS},Stp ⟨B,inn k ix A.rho,S⟩ H' A4 H6→ButS A.S H H6:=fun Sx b o h n=>Sx.fr b o (bs b o h n) fun m=>m.elim zbC fun z=>n (sd_d hs z)
  refine⟨xs[i],⟨B,inn k ix A.rho,S⟩,_,R3,rv',step B (xs.take i) xs[i] (xs.drop (i+1)) ys S (by simp) hI,fun A2 σ3 p2 Ra Sa=>⟨A2,_,Ra,p2,fun b A3 H5 p3 Rb Sb=>?_⟩⟩
  have Sy:=(Stp.same ⟨B,inn k ix A.rho,S⟩ s).trans (Sa.trans Sb)
  cases b with
  | true=>
   refine iteT ⟨A3,_,Rb,p3,fun y A4 w H6 p4 Rc Sc ry=>?_⟩
   obtain⟨⟨kl,kd⟩,hI4⟩:=p4
   have Sx:=Sy.trans Sc
   have ha6:H6 acc=some (.lst vs):=Sx.fr acc _ ha notMt
   refine⟨vs,ha6,Nat.lt_of_le_of_lt lv (Nat.lt_of_lt_of_le hi (Nat.le_trans few (by decide))),ys++[y],vs++[w],A4.S,by rw[eT];exact hI4,?_,zab,?_,?_,?_,Sx.sd.trans hs⟩
   ·have Rd:=(Rc.drop kd (by omega)).1
    have eB:A4.B=B:=Sx.b
    rw[eB] at Rd
    exact Rd.updB ha6 (.inr rfl) fun j a c h=>by
     obtain⟨i',j',t',_,_,h4,e⟩:=zfL h
     obtain⟨_,_,q⟩:=R.sl j' _ h4
     have:H a≠none:=by
      cases t' with
      | val x=>cases e
      | own a' c'=>cases e;exact q.2.2.some
      | peek a' c'=>cases e;exact q.2.2.some
     exact fun z=>this (by rw[z];exact hacc)
   ·have kp:KeepV K B B H' (upd H6 acc (.lst (vs++[w]))):=⟨fun a us h=>?_,fun a o n h=>⟨n,?_⟩⟩
    have kq:KeepV K (AN A4) B H6 (upd H6 acc (.lst (vs++[w]))):=⟨fun a us h=>?_,fun a o n h=>⟨fun z=>n (.inl (by rw[Sx.b];exact z)),?_⟩⟩
    ·exact(rs.imp kp).app (.cons (ry.imp kq) .nil)
    ·exact zdm ha6 h
    ·rw[zac fun e=>n (by rw[e];exact .inl (by rw[Sx.b];exact .inr rfl))]
     exact h
    ·exact zdm ha6 (((R'.keep Sx).t) a us h)
    ·have na':a≠acc:=fun e=>n (.inr e)
     rw[zac na']
     exact Sx.fr a o h fun m=>m.elim zbC fun⟨st,z1,z2⟩=>n (by rw[← z2];exact(R'.st st z1).1)
   ·rw[List.length_append];exact Nat.succ_le_succ lv
   ·intro b o h n
    rw[zac (na b o h)]
    exact bsx Sx b o h n
  | false=>
   obtain⟨⟨kl,kd⟩,hI4⟩:=p3
   have ha5:H5 acc=some (.lst vs):=Sy.fr acc _ ha notMt
   have Rd:=(Rb.drop kd (by omega)).1
   have eB:A3.B=B:=Sy.b
   rw[eB] at Rd
   refine iteF ⟨ys,vs,A3.S,by rw[eT];exact hI4,Rd,ha5,rs.imp ⟨(R'.keep Sy).t,fun a o n h=>⟨n,Sy.fr a o h fun m=>m.elim zbC fun⟨st,z1,z2⟩=>n (by rw[← z2];exact(R'.st st z1).1)⟩⟩,Nat.le_succ_of_le lv,bsx Sy,Sy.sd.trans hs⟩
end
section
variable {X:Cx}{K:PySem.W.Frag}{elt tg iter:Expr}{ifs:List Expr}{pos:Pos}{sc:Scope}{cl:List (Str×Addr)}{N:List Str}{k:Nat}{ix:List Nat}{g:UG}{t:UT}{ue:UE}{ui:UI}
theorem zci (S:CompScope X sc cl N k ix) (hc:X.calm=true) (hp:PI X tg iter (liftI K ui)) (hg:∀ C fp s H,PG (cxComp X N sc cl C fp s H) tg (liftG K g)) (hi:∀ C fp s H,PIf (cxComp X N sc cl C fp s H) ifs (liftT K t)) (he:∀ C fp s H,PE (cxComp X N sc cl C fp s H) elt (liftV K ue))
  (hs:∀ x,foldedSetIterable iter X.env x=pure x:=by intro _;rfl):PE X (.ListComp elt [⟨tg,iter,ifs,0⟩] sc pos) (liftF K (uComp k ix ui g t ue)):=(pe_comp S hc hp hg hi he hs).mono fun σ H Q ⟨A,P,R,h,c⟩=>
 ⟨A,_,R,h,fun xs C A1 J H1 p R1 S1 ok acc hacc=>by
  obtain⟨few,I,i0,step,fin⟩:=p
  exact comp_core R1 ok hacc few i0 step fin fun r A2 v H0 H2 q R2 S2 f=>c (.lst r) A2 v H0 H2 q R2 (S1.trans S2) f⟩
theorem f_0:PIf X [] (liftT K uYes):=fun pins s σ H Q I h=>pf_nil pins s σ H Q I (by
 obtain⟨A,P,R,h,c⟩:=h
 exact c true A H h R (Stp.refl A H))
theorem f_1 {c:Expr} (h:PT X c (liftT K t)):PIf X [c] (liftT K t):=pf_one h
end
section
variable {k:Nat}{ix:List Nat}{g:UG}{t:UT}{ue:UE}{xs:List PV}{A1:AS}{Q:PV→AS→Prop}
end
end L2
namespace L2
open PySem PySem.Spec PyProof.Rows
abbrev Rel:=List PV→PV→Prop
abbrev Tr:=List PV→SSt→(PV→SSt→Prop)→Prop
def PostV (fr:Bool) (K:PySem.W.Frag) (B:Addr→Prop) (H:Hp) (r:PV) (v:V) (H':Hp):Prop:=if fr=true then ∃ H0,Same H H0∧FrV K B H0 H' r v else Same H H'∧RV K B H' r v
def spV (K:PySem.W.Frag) (fr:Bool) (G:Rel):Sp:=fun vs H Q _=>∃ B xs r,(∀ a,B a→H a≠none)∧RVs K B H xs vs∧G xs r∧∀ v H',PostV fr K B H r v H'→Q v H'
def PostS (fr:Bool) (K:PySem.W.Frag) (B:Addr→Prop) (d:Addr) (H:Hp) (r:PV) (v:V) (H':Hp) (st:SSt):Prop:=if fr=true then ∃ H0,But d H H0∧StAt H0 st.d st.a st.n st.b∧ScrF K H0 st.a∧FrV K B H0 H' r v else But d H H'∧RV K B H' r v
def spS (K:PySem.W.Frag) (fr:Bool) (T:Tr):Sp:=fun vs H Q _=>∃ B xs st P,(∀ a,B a→H a≠none)∧B st.d∧StAt H st.d st.a st.n st.b∧ScrF K H st.a∧RVs K B H xs vs∧T xs st P ∧
 ∀ r st' v H',P r st'→st'.d=st.d→StAt H' st'.d st'.a st'.n st'.b→ScrF K H' st'.a→PostS fr K B st.d H r v H' st'→Q v H'
def entry (B:Addr→Prop) (N:List Str) (xs:List PV) (S:Option SSt):AS:=⟨B,xs.map (fun x=>some (Sl.val x))++List.replicate (N.length-xs.length) none,S⟩
def endsV (fr:Bool) (r:PV):UEnds:=⟨fun _=>fr=false∧r=.non,fun r' _=>fr=false∧r'=r,fun r' _=>fr=true∧r'=r,fun _=>False,fun _=>False⟩
def endsS (fr:Bool) (P:PV→SSt→Prop):UEnds:=⟨fun A=>fr=false∧∃ st,A.S=some st∧P .non st,fun r A=>fr=false∧∃ st,A.S=some st∧P r st,fun r A=>fr=true∧∃ st,A.S=some st∧P r st,fun _=>False,fun _=>False⟩
section
variable {K:PySem.W.Frag}{H H1:Hp}{B:Addr→Prop}
theorem FrV.weak {N N':Addr→Prop}{H0 H1:Hp}{r:PV}{v:V} (f:FrV K N H0 H1 r v) (h:∀ a,N' a→N a):FrV K N' H0 H1 r v:=by
 obtain⟨p,c,e1,e2,hp,s,hc⟩:=f
 have kp:KeepV K N N' H0 H0:=⟨fun _ _ h=>h,fun a o n e=>⟨fun z=>n (h a z),e⟩⟩
 refine⟨p,c,e1,e2,hp,s,?_⟩
 cases c with
 | lst xs=>obtain⟨vs,h1,h2⟩:=hc;exact⟨vs,h1,h2.imp kp⟩
 | dic xs=>obtain⟨vs,h1,h2⟩:=hc;exact⟨vs,h1,h2.imp kp⟩
 | ins _ _ _=>exact hc.elim
theorem RV.weak {N N':Addr→Prop}{r:PV}{v:V} (f:RV K N H r v) (h:∀ a,N' a→N a):RV K N' H r v:=f.imp ⟨fun _ _ h=>h,fun a o n e=>⟨fun z=>n (h a z),e⟩⟩
theorem Rep.own_new {σ:St}{A:AS}{i:Nat}{a:Addr}{c:OC} (R:Rep K H σ A) (hi:A.rho[i]?=some (some (.own a c))) (hld:c.Ld):FrV K A.B (erase H a) H c.pv (.ref a):=by
 obtain⟨v,_,rfl,nb,oc⟩:=R.sl i _ hi
 have hs:Same (erase H a) H:=fun b o h=>by
  by_cases e:b=a
  ·rw[e,zax] at h;cases h
  ·rw[zag e] at h;exact h
 have kp:KeepV K (AN A) A.B H (erase H a):=by
  refine⟨fun b vs h=>?_,fun b o n h=>⟨fun z=>n (.inl z),by rw[zag fun e=>n (by rw[e];exact .inr ⟨i,c,hi⟩)];exact h⟩⟩
  rcases h with h | h
  ·have nb:b≠a:=fun e=>by
    rw[e] at h
    rcases R.own_at ⟨i,c,hi⟩ with ⟨z,q⟩ | ⟨z,q⟩ | ⟨_,_,z,q⟩<;>(rcases h with h | ⟨o,h⟩<;>(rw[q] at h;cases h))
   exact .inl (h.imp (fun z=>by rw[zag nb];exact z) fun⟨o,z⟩=>⟨o,by rw[zag nb];exact z⟩)
  ·exact .inr h
 refine⟨a,c,rfl,rfl,zax _ _,hs,?_⟩
 cases c with
 | lst xs=>obtain⟨vs,h1,h2⟩:=oc;exact⟨vs,h1,h2.imp kp⟩
 | dic xs=>obtain⟨vs,h1,h2⟩:=oc;exact⟨vs,h1,h2.imp kp⟩
 | ins _ _ _=>exact hld.elim
theorem zaW {N:List Str}{xs:List PV}{S:Option SSt}{a:Addr}:¬ Own (entry B N xs S).rho a:=by
 rintro⟨i,c,h⟩
 have h':(xs.map (fun x=>some (Sl.val x))++List.replicate (N.length-xs.length) none)[i]?=some (some (.own a c)):=h
 by_cases hi:i<xs.length
 ·rw[List.getElem?_append_left (by simpa using hi),List.getElem?_map] at h'
  obtain⟨x,_,e⟩:=Option.map_eq_some_iff.mp h'
  cases e
 ·rw[List.getElem?_append_right (by simpa using (Nat.le_of_not_lt hi)),List.getElem?_replicate] at h'
  split at h'<;>cases h'
theorem zeB {N:List Str}{xs:List PV}{vs:List V}{S:Option SSt} (dom:∀ a,B a→H a≠none) (r:RVs K B H xs vs) (hl:xs.length≤N.length) (hS:∀ st,S=some st→B st.d∧StAt H st.d st.a st.n st.b∧ScrF K H st.a):Rep K H (start N vs) (entry B N xs S):=by
 have an:∀ a,AN (entry B N xs S) a→B a:=fun a h=>h.elim id fun z=>absurd z zaW
 have ll:=r.len
 refine⟨?_,fun i s h=>?_,dom,fun i j a c c' h _=>absurd ⟨i,c,h⟩ zaW,hS,fun i a c st h _=>?_⟩
 ·show(start N vs).length=(xs.map (fun x=>some (Sl.val x))++List.replicate (N.length-xs.length) none).length
  unfold start
  rw[List.length_append,List.length_append,List.length_map,List.length_map,List.length_replicate,List.length_replicate,ll]
 ·have h':(xs.map (fun x=>some (Sl.val x))++List.replicate (N.length-xs.length) none)[i]?=some (some s):=h
  by_cases hi:i<xs.length
  ·rw[List.getElem?_append_left (by simpa using hi),List.getElem?_map] at h'
   obtain⟨x,hx,e⟩:=Option.map_eq_some_iff.mp h'
   cases e
   obtain⟨v,hv,rv⟩:=r.at hx
   refine⟨v,?_,rv.weak an⟩
   unfold start
   rw[List.getElem?_append_left (by rw[List.length_map];omega),List.getElem?_map,hv]
   rfl
  ·rw[List.getElem?_append_right (by simpa using (Nat.le_of_not_lt hi)),List.getElem?_replicate] at h'
   split at h'<;>cases h'
 ·have h':(xs.map (fun x=>some (Sl.val x))++List.replicate (N.length-xs.length) none)[i]?=some (some (.peek a c)):=h
  by_cases hi:i<xs.length
  ·rw[List.getElem?_append_left (by simpa using hi),List.getElem?_map] at h'
   obtain⟨x,_,e⟩:=Option.map_eq_some_iff.mp h'
   cases e
  ·rw[List.getElem?_append_right (by simpa using (Nat.le_of_not_lt hi)),List.getElem?_replicate] at h'
   split at h'<;>cases h'
theorem zco {A A1:AS} (e:A1.B=A.B):∀ a,A.B a→AN A1 a:=fun a h=>.inl (by rw[e];exact h)
end
section
variable {P:Program}{w:World}{K:PySem.W.Frag}{mg:Str→Option Value}{base:Heap}
theorem Fun.okV {x qual:Str}{st:Stmt}{f:Addr}{fd:FuncData}{N ps:List Str}{k:Nat}{fr:Bool}{G:Rel} (F:Fun K x qual st f fd) (S:FnScope N ps (defScope st)) (len:∀ xs r,G xs r→xs.length=ps.length) (lN:ps.length≤N.length)
  (hbody:∀ (cdv:Value) (A:Around) (outer:List Env) (s:Shared) (H:Hp) (E:XK),Room k (A.deeper (envOfC qual (defScope st) s.heap.objs.size f cdv)) →
   ∃ u,PSs (cxOf CX0 P w K mg base N qual (defScope st) f cdv A outer s H E).nox (defBody st) (liftS K u)∧∀ B xs r,G xs r→u (endsV fr r) (entry B N xs none)):FnOk P w K mg base CX0 (k+1) f fd ps (spV K fr G):=by
 refine F.ok S (fun vs H Q E h=>?_) fun cdv A outer s H vs Q E hr h=>?_
 ·obtain⟨B,xs,r,_,rv,g,_⟩:=h
  rw[← rv.len]
  exact len xs r g
 obtain⟨B,xs,r,dom,rv,g,fin⟩:=h
 obtain⟨u,hu,q⟩:=hbody cdv A outer s H E hr
 have R0:=zeB (K:=K) (S:=none) (N:=N) dom rv (by rw[len xs r g];exact lN) fun st h=>by cases h
 have same:∀ {A1:AS}{H1:Hp},Stp (entry B N xs none) H A1 H1→Same H H1:=fun S1 b o h=>S1.fr b o h fun m=>m.elim zaW fun⟨st,z,_⟩=>by cases z
 refine⟨_,hu,entry B N xs none,endsV fr r,R0,q B xs r g,?_,?_,?_,?_,?_,?_⟩
 ·rintro A1 σ1 H1 ⟨rfl,rfl⟩ R1 S1
  exact fin _ _ ⟨same S1,.non⟩
 ·rintro r' A1 σ1 v H1 ⟨rfl,rfl⟩ R1 S1 rv'
  exact fin _ _ ⟨same S1,rv'.weak (zco S1.b)⟩
 ·rintro r' A1 σ1 v H0 H1 ⟨rfl,rfl⟩ R1 S1 f
  exact fin _ _ ⟨H0,same S1,f.weak (zco S1.b)⟩
 ·rintro i a c A1 σ1 H1 hi hld e R1 S1
  obtain⟨rfl,e'⟩:=e
  subst e'
  have f:=R1.own_new hi hld
  have sm:Same H (erase H1 a):=fun b o h=>by
   have nb:b≠a:=fun z=>by
    rcases S1.ow a ⟨i,c,hi⟩ with y | y
    ·exact zaW y
    ·rw[z,y] at h;cases h
   rw[zag nb]
   exact same S1 b o h
  have hB:∀ a,B a→A1.B a:=fun a h=>by rw[S1.b];exact h
  exact fin _ _ ⟨_,sm,f.weak hB⟩
 ·rintro A1 σ1 H1 h
  exact h.elim
 ·rintro A1 σ1 H1 h
  exact h.elim
theorem Fun.okS {x qual:Str}{st:Stmt}{f:Addr}{fd:FuncData}{N ps:List Str}{k:Nat}{fr:Bool}{T:Tr} (F:Fun K x qual st f fd) (S:FnScope N ps (defScope st)) (len:∀ xs st P,T xs st P→xs.length=ps.length) (lN:ps.length≤N.length)
  (hbody:∀ (cdv:Value) (A:Around) (outer:List Env) (s:Shared) (H:Hp) (E:XK),Room k (A.deeper (envOfC qual (defScope st) s.heap.objs.size f cdv)) →
   ∃ u,PSs (cxOf CX0 P w K mg base N qual (defScope st) f cdv A outer s H E).nox (defBody st) (liftS K u)∧∀ B xs st P,T xs st P→u (endsS fr P) (entry B N xs (some st))):FnOk P w K mg base CX0 (k+1) f fd ps (spS K fr T):=by
 refine F.ok S (fun vs H Q E h=>?_) fun cdv A outer s H vs Q E hr h=>?_
 ·obtain⟨B,xs,st,P,_,_,_,_,rv,g,_⟩:=h
  rw[← rv.len]
  exact len xs st P g
 obtain⟨B,xs,st,P,dom,hd,h1,h2,rv,g,fin⟩:=h
 obtain⟨u,hu,q⟩:=hbody cdv A outer s H E hr
 have R0:=zeB (K:=K) (S:=some st) (N:=N) dom rv (by rw[len xs st P g];exact lN) fun st' h=>by cases h;exact⟨hd,h1,h2⟩
 have same:∀ {A1:AS}{H1:Hp},Stp (entry B N xs (some st)) H A1 H1→But st.d H H1:=fun S1 b o h n=>S1.fr b o h fun m=>m.elim zaW fun⟨st',z,e⟩=>n (by cases z;exact e.symm)
 have sdd:∀ {A1:AS}{H1:Hp}{st':SSt},Stp (entry B N xs (some st)) H A1 H1→A1.S=some st'→st'.d=st.d:=fun S1 e=>by
  have:=S1.sd
  rw[e] at this
  exact Option.some.inj this
 refine⟨_,hu,entry B N xs (some st),endsS fr P,R0,q B xs st P g,?_,?_,?_,?_,?_,?_⟩
 ·rintro A1 σ1 H1 ⟨rfl,st',e,p⟩ R1 S1
  exact fin _ st' _ _ p (sdd S1 e) (R1.st st' e).2.1 (R1.st st' e).2.2 ⟨same S1,.non⟩
 ·rintro r' A1 σ1 v H1 ⟨rfl,st',e,p⟩ R1 S1 rv'
  exact fin _ st' _ _ p (sdd S1 e) (R1.st st' e).2.1 (R1.st st' e).2.2 ⟨same S1,rv'.weak (zco S1.b)⟩
 ·rintro r' A1 σ1 v H0 H1 ⟨rfl,st',e,p⟩ R1 S1 f
  have R2:=R1.same f.same
  exact fin _ st' _ _ p (sdd S1 e) (R2.st st' e).2.1 (R2.st st' e).2.2 ⟨H0,same S1,(R1.st st' e).2.1,(R1.st st' e).2.2,f.weak (zco S1.b)⟩
 ·rintro i a c A1 σ1 H1 hi hld ⟨rfl,st',e,p⟩ R1 S1
  have f:=R1.own_new hi hld
  have e':A1.S=some st':=e
  have own0:H a=none:=(S1.ow a ⟨i,c,hi⟩).elim (fun y=>absurd y zaW) id
  have sm:But st.d H (erase H1 a):=fun b o h n=>by
   rw[zag fun z=>by rw[z,own0] at h;cases h]
   exact same S1 b o h n
  have hB:∀ a,B a→A1.B a:=fun a h=>by rw[S1.b];exact h
  refine fin _ st' _ _ p (sdd S1 e') (R1.st st' e').2.1 (R1.st st' e').2.2 ?_
  obtain⟨b1,h1,hF⟩:=R1.st st' e'
  have nda:st'.d≠a:=fun z=>(R1.sl i _ hi).choose_spec.2.2.1 (by rw[← z];exact b1)
  obtain⟨t,l',w,e2,r⟩:=h1.ex
  refine⟨_,sm,⟨⟨t,l',w,by rw[zag nda];exact e2,r⟩,fun T o z=>⟨by
   rw[zag fun y=>by
    have q:=(h1.tb T o z).1
    rw[y] at q
    rcases R1.own_at ⟨i,c,hi⟩ with ⟨y,q2⟩ | ⟨y,q2⟩ | ⟨_,_,y,q2⟩<;>(rw[q2] at q;cases q)]
   exact(h1.tb T o z).1,(h1.tb T o z).2⟩⟩,hF.keepF fun o u h2=>?_,f.weak hB⟩
  rw[zag fun z=>by
   rw[z] at h2
   rcases R1.own_at ⟨i,c,hi⟩ with ⟨y,q⟩ | ⟨y,q⟩ | ⟨_,_,y,q⟩<;>(rw[q] at h2;cases h2)]
  exact h2
 ·rintro A1 σ1 H1 h
  exact h.elim
 ·rintro A1 σ1 H1 h
  exact h.elim
structure Kn (P:Program) (w:World) (K:PySem.W.Frag) (mg:Str→Option Value) (base:Heap) (k:Nat) (x:Str) (sp:Sp):Prop where
 ex:∃ f fd ps,FnOk P w K mg base CX0 k f fd ps sp∧Binds K fd ps []∧PySem.W.keepIn K (.ref f)=true∧mg x=some (.ref f)
end
def uCall (G:Rel) (ua:UA):UE:=fun A Q=>ua A fun xs A1=>∃ r,G xs r∧Q r A1
def uCallS (T:Tr) (ua:UA):UE:=fun A Q=>ua A fun xs A1=>∃ st,A1.S=some st∧T xs st fun r st'=>Q r { A1 with S:=some st' }
section
variable {X:Cx}{K:PySem.W.Frag}{k:Nat}{x:Str}{p pos:Pos}{e:Expr}{es:List Expr}{ua:UA}{G:Rel}{T:Tr}{fr:Bool}
theorem Rep.dom' {H:Hp}{σ:St}{A:AS} (R:Rep K H σ A):∀ a,AN A a→H a≠none:=fun a h hn=>R.new hn h
theorem zap (hK:X.K=K) (F:Kn X.prog X.w X.K X.mg X.base k x (spV K false G)) (hr:Room k X.A) (ha:PA X (e::es) (liftA K ua)) (hg:Gl X x:=by rfl) (hdb:(x==("__debug__":Str))=false:=by decide) (he:starEach (e::es) X.env=(false,eval e X.env)::starEach es X.env:=by rfl) (hpl:(backTo pos (starEach es X.env)).any (·.1)=false:=by rfl) :
  PE X (.Call (.Name x p) (e::es) [] pos) (liftV K (uCall G ua)):=by
 obtain⟨f,fd,ps,F1,b,kp,hm⟩:=F.ex
 refine(zaZ F1 hr hg hm kp b .nil zbO ha hdb he hpl).mono fun σ H Q ⟨A,P,R,h,c⟩=>⟨A,_,R,h,fun xs A1 vs H1 p R1 S1 rs=>?_⟩
 obtain⟨r,g,p⟩:=p
 rw[List.append_nil]
 refine⟨AN A1,xs,r,R1.dom',rs,g,fun v H' q=>?_⟩
 have q':Same H1 H'∧RV K (AN A1) H' r v:=q
 exact c r A1 v H' p (R1.same q'.1) (S1.trans (Stp.same A1 q'.1)) q'.2
theorem zaJ (hK:X.K=K) (F:Kn X.prog X.w X.K X.mg X.base k x (spV K true G)) (hr:Room k X.A) (ha:PA X (e::es) (liftA K ua)) (hg:Gl X x:=by rfl) (hdb:(x==("__debug__":Str))=false:=by decide) (he:starEach (e::es) X.env=(false,eval e X.env)::starEach es X.env:=by rfl) (hpl:(backTo pos (starEach es X.env)).any (·.1)=false:=by rfl) :
  PE X (.Call (.Name x p) (e::es) [] pos) (liftF K (uCall G ua)):=by
 obtain⟨f,fd,ps,F1,b,kp,hm⟩:=F.ex
 refine(zaZ F1 hr hg hm kp b .nil zbO ha hdb he hpl).mono fun σ H Q ⟨A,P,R,h,c⟩=>⟨A,_,R,h,fun xs A1 vs H1 p R1 S1 rs=>?_⟩
 obtain⟨r,g,p⟩:=p
 rw[List.append_nil]
 refine⟨AN A1,xs,r,R1.dom',rs,g,fun v H' q=>?_⟩
 obtain⟨H0,s,f⟩:=q
 exact c r A1 v H0 H' p (R1.same s) (S1.trans (Stp.same A1 s)) f
theorem st_of {H H':Hp}{σ:St}{A:AS} (R:Rep K H σ A){st st':SSt} (hS:A.S=some st) (b:But st.d H H') (hd:st'.d=st.d) (h1:StAt H' st'.d st'.a st'.n st'.b) (h2:ScrF K H' st'.a):Rep K H' σ { A with S:=some st' }∧Stp A H { A with S:=some st' } H':=
 ButS.stp R (by rw[hS];simp [hd]) (fun st2 e=>by cases e;exact⟨h1,h2⟩) fun c o h n=>b c o h fun e=>n ⟨st,hS,e.symm⟩
theorem zaO (hK:X.K=K) (F:Kn X.prog X.w X.K X.mg X.base k x (spS K false T)) (hr:Room k X.A) (ha:PA X (e::es) (liftA K ua)) (hg:Gl X x:=by rfl) (hdb:(x==("__debug__":Str))=false:=by decide) (he:starEach (e::es) X.env=(false,eval e X.env)::starEach es X.env:=by rfl) (hpl:(backTo pos (starEach es X.env)).any (·.1)=false:=by rfl) :
  PE X (.Call (.Name x p) (e::es) [] pos) (liftV K (uCallS T ua)):=by
 obtain⟨f,fd,ps,F1,b,kp,hm⟩:=F.ex
 refine(zaZ F1 hr hg hm kp b .nil zbO ha hdb he hpl).mono fun σ H Q ⟨A,P,R,h,c⟩=>⟨A,_,R,h,fun xs A1 vs H1 p R1 S1 rs=>?_⟩
 obtain⟨st,hS,p⟩:=p
 rw[List.append_nil]
 obtain⟨s1,s2,s3⟩:=R1.st st hS
 refine⟨AN A1,xs,st,_,R1.dom',.inl s1,s2,s3,rs,p,fun r st' v H' q hd h1 h2 po=>?_⟩
 have q':But st.d H1 H'∧RV K (AN A1) H' r v:=po
 obtain⟨R2,S2⟩:=st_of R1 hS q'.1 hd h1 h2
 exact c r _ v H' q R2 (S1.trans S2) q'.2
end
end L2
namespace L2
open PySem PySem.Spec PyProof.Rows
theorem zbs {n:Nat} (h:n≤100000):n≤sizeLine:=Nat.le_trans h (by decide)
def gAdd:G2
 | .int i,.int j,z=>z=.int (i+j)
 | .str a,.str b,z=>a.length+b.length≤100000∧z=.str (a++b)
 | .tup xs,.tup ys,z=>xs.length+ys.length≤100000∧z=.tup (xs++ys)
 | .lst xs,.lst ys,z=>xs.length+ys.length≤100000∧z=.lst (xs++ys)
 | _,_,_=>False
def gCat:G2
 | .lst xs,.lst ys,z=>xs.length+ys.length≤100000∧z=.lst (xs++ys)
 | _,_,_=>False
def rStr:R2:=fun x y H Q=>∃ i j,x=.str i∧y=.str j∧i.length+j.length≤sizeLine∧Q (.str (i++j)) H
def rAddA (K:PySem.W.Frag):R2:=fun x y H Q=>(rI0 fun i j=>.int (i+j)) x y H Q∨rStr x y H Q∨rCat0 K x y H Q∨rCat x y H Q
section
variable {X:Cx}{K:PySem.W.Frag}
theorem op_addA (hK:X.K=K):OpR X (binaryOp .Add) (rAddA K):=by
 subst hK
 exact op_add.or (op_add_str.or (op_cat0.or op_cat))
theorem br_cat:Br2F K rCat gCat:=by
 intro H A σ x y v w z Q R q1 q2 g c
 cases x<;>cases y<;>try exact g.elim
 rename_i xs ys
 obtain⟨few,rfl⟩:=g
 obtain⟨a,vs,rfl,h1,r1⟩:=q1.lst R
 obtain⟨b,ws,rfl,h2,r2⟩:=q2.lst R
 refine⟨a,b,vs,ws,rfl,rfl,h1,h2,zbs (by rw[← r1.len,← r2.len];exact few),fun p hp=>c _ _ ⟨p,.lst _,rfl,rfl,hp,zam hp _,_,zab,r1.app r2⟩⟩
theorem br_add:Br2 K (rAddA K) gAdd:=by
 intro H A σ x y v w z Q R q1 q2 g c
 cases x<;>cases y<;>try exact g.elim
 ·cases q1.int;cases q2.int;cases g
  exact .inl ⟨_,_,rfl,rfl,c _ H (Same.refl H) (.int _)⟩
 ·cases q1.str;cases q2.str
  obtain⟨few,rfl⟩:=g
  exact .inr (.inl ⟨_,_,rfl,rfl,zbs few,c _ H (Same.refl H) (.str _)⟩)
 ·rename_i xs ys
  obtain⟨few,rfl⟩:=g
  obtain⟨a,vs,rfl,h1,r1⟩:=q1.tup
  obtain⟨b,ws,rfl,h2,r2⟩:=q2.tup
  refine .inr (.inr (.inl ⟨a,b,vs,ws,rfl,rfl,h1,h2,zbs (by rw[← r1.len,← r2.len];exact few),fun e=>?_,fun _ e=>?_,fun _ _ p hp=>?_⟩))
  ·subst e
   cases r1
   exact c _ H (Same.refl H) (.tup h2 r2)
  ·subst e
   cases r2
   rw[List.append_nil] at c
   exact c _ H (Same.refl H) (.tup h1 r1)
  ·have s:=zam hp (.tup (vs++ws))
   exact c _ _ s (.tup (SqT.of zab) ((r1.app r2).imp (zan s)))
 ·rename_i xs ys
  obtain⟨few,rfl⟩:=id g
  exact .inr (.inr (.inr (br_cat H A σ _ _ v w _ Q R q1 q2 g fun v' H' f=>c v' H' f.same (f.rvL fun _=>R.new))))
def gI (C:Int→Int→Prop) (f:Int→Int→PV):G2
 | .int i,.int j,z=>C i j∧z=f i j
 | _,_,_=>False
theorem br_I {C:Int→Int→Prop}{f:Int→Int→V}{g:Int→Int→PV} (h:∀ N H i j,RV K N H (g i j) (f i j)):Br2 K (rI C f) (gI C g):=by
 intro H A σ x y v w z Q R q1 q2 g c
 cases x<;>cases y<;>try exact g.elim
 obtain⟨hc,rfl⟩:=g
 cases q1.int;cases q2.int
 exact⟨_,_,rfl,rfl,hc,c _ H (Same.refl H) (h _ _ _ _)⟩
def gI0 (f:Int→Int→PV):G2
 | .int i,.int j,z=>z=f i j
 | _,_,_=>False
theorem br_I0 {f:Int→Int→V}{g:Int→Int→PV} (h:∀ N H i j,RV K N H (g i j) (f i j)):Br2 K (rI0 f) (gI0 g):=by
 intro H A σ x y v w z Q R q1 q2 g c
 cases x<;>cases y<;>try exact g.elim
 cases g
 cases q1.int;cases q2.int
 exact⟨_,_,rfl,rfl,c _ H (Same.refl H) (h _ _ _ _)⟩
end
section
variable {X:Cx}{K:PySem.W.Frag}{a b:Expr}{ua ub:UE}{pos:Pos}
theorem zdU (hK:X.K=K) (ha:PE X a (liftQ K ua)) (hb:PE X b (liftQ K ub)):PE X (.BinOp a .Add b pos) (liftV K (u2 gAdd ua ub)):=s_bin (op_addA hK) br_add ha hb
theorem zfj (ha:PE X a (liftQ K ua)) (hb:PE X b (liftQ K ub)):PE X (.BinOp a .Add b pos) (liftF K (u2 gCat ua ub)):=s_binF op_cat br_cat ha hb
theorem e_sub (ha:PE X a (liftQ K ua)) (hb:PE X b (liftQ K ub)):PE X (.BinOp a .Sub b pos) (liftV K (u2 (gI0 fun i j=>.int (i-j)) ua ub)):=s_bin op_sub (br_I0 fun _ _ _ _=>.int _) ha hb
theorem e_mul (ha:PE X a (liftQ K ua)) (hb:PE X b (liftQ K ub)):PE X (.BinOp a .Mult b pos) (liftV K (u2 (gI CMul fun i j=>.int (i*j)) ua ub)):=s_bin zcy (br_I fun _ _ _ _=>.int _) ha hb
theorem e_div (ha:PE X a (liftQ K ua)) (hb:PE X b (liftQ K ub)):PE X (.BinOp a .FloorDiv b pos) (liftV K (u2 (gI (fun _ j=>0<j∧j<2 ^ 200) fun i j=>.int (i / j)) ua ub)):=s_bin zdD (br_I fun _ _ _ _=>.int _) ha hb
theorem e_mod (ha:PE X a (liftQ K ua)) (hb:PE X b (liftQ K ub)):PE X (.BinOp a .Mod b pos) (liftV K (u2 (gI (fun _ j=>0<j) fun i j=>.int (i % j)) ua ub)):=s_bin zcg (br_I fun _ _ _ _=>.int _) ha hb
end
mutual
def peq:PV→PV→Bool
 | .non,.non=>true
 | .bl a,.bl b=>a==b
 | .bl a,.int b=>(if a then 1 else 0)==b
 | .int a,.bl b=>a==(if b then 1 else 0)
 | .int a,.int b=>a==b
 | .str a,.str b=>a==b
 | .tup xs,.tup ys=>peqs xs ys
 | .lst xs,.lst ys=>peqs xs ys
 | _,_=>false
def peqs:List PV→List PV→Bool
 | [],[]=>true
 | x::xs,y::ys=>peq x y&&peqs xs ys
 | _,_=>false
end
mutual
def pdep:PV→Option Nat
 | .tup xs=>(pdeps xs).map (·+1)
 | .lst xs=>(pdeps xs).map (·+1)
 | .raw _=>none
 | .dic _=>none
 | _=>some 0
def pdeps:List PV→Option Nat
 | []=>some 0
 | x::xs=>match pdep x,pdeps xs with
  | some m,some n=>some (max m n)
  | _,_=>none
end
def Dp (n:Nat) (x:PV):Prop:=∃ m,pdep x=some m∧m≤n
theorem dp_cons {n:Nat}{x:PV}{xs:List PV}:(∃ m,pdeps (x::xs)=some m∧m≤n)↔Dp n x∧∃ m,pdeps xs=some m∧m≤n:=by
 constructor
 ·rintro⟨m,e,h⟩
  unfold pdeps at e
  split at e
  ·rename_i a b e1 e2
   cases e
   exact⟨⟨a,e1,by omega⟩,b,e2,by omega⟩
  ·cases e
 ·rintro⟨⟨a,e1,h1⟩,b,e2,h2⟩
  refine⟨max a b,?_,by omega⟩
  unfold pdeps
  rw[e1,e2]
theorem dp_tup {n:Nat}{xs:List PV}:Dp (n+1) (.tup xs)↔∃ m,pdeps xs=some m∧m≤n:=by
 unfold Dp pdep
 constructor
 ·rintro⟨m,e,h⟩
  obtain⟨k,hk,rfl⟩:=Option.map_eq_some_iff.mp e
  exact⟨k,hk,by omega⟩
 ·rintro⟨m,e,h⟩
  exact⟨m+1,by rw[e];rfl,by omega⟩
theorem dp_lst {n:Nat}{xs:List PV}:Dp (n+1) (.lst xs)↔∃ m,pdeps xs=some m∧m≤n:=by
 unfold Dp pdep
 constructor
 ·rintro⟨m,e,h⟩
  obtain⟨k,hk,rfl⟩:=Option.map_eq_some_iff.mp e
  exact⟨k,hk,by omega⟩
 ·rintro⟨m,e,h⟩
  exact⟨m+1,by rw[e];rfl,by omega⟩
theorem zbi {xs:List PV}:¬ Dp 0 (.tup xs):=by
 rintro⟨m,e,h⟩
 unfold pdep at e
 obtain⟨k,hk,rfl⟩:=Option.map_eq_some_iff.mp e
 omega
theorem zca {xs:List PV}:¬ Dp 0 (.lst xs):=by
 rintro⟨m,e,h⟩
 unfold pdep at e
 obtain⟨k,hk,rfl⟩:=Option.map_eq_some_iff.mp e
 omega
theorem dp_all {n:Nat}:∀ {xs:List PV},(∃ m,pdeps xs=some m∧m≤n)↔∀ x∈xs,Dp n x
 | []=>by simp [pdeps]
 | x::xs=>by
  rw[dp_cons,dp_all]
  simp
end L2
set_option maxHeartbeats 2000000
namespace L2
open PySem PySem.Spec PyProof.Rows
mutual
theorem zdA:∀ (n:Nat) (x:PV),Dp n x→peq x x=true
 | _,.non,_=>rfl
 | _,.bl b,_=>by simp [peq]
 | _,.int b,_=>by simp [peq]
 | _,.str b,_=>by simp [peq]
 | 0,.tup xs,h=>absurd h zbi
 | 0,.lst xs,h=>absurd h zca
 | n+1,.tup xs,h=>by
  show peqs xs xs=true
  exact zcx n xs (dp_all.mp (dp_tup.mp h))
 | n+1,.lst xs,h=>by
  show peqs xs xs=true
  exact zcx n xs (dp_all.mp (dp_lst.mp h))
 | _,.raw v,⟨m,e,_⟩=>by cases e
 | _,.dic v,⟨m,e,_⟩=>by cases e
theorem zcx:∀ (n:Nat) (xs:List PV),(∀ x∈xs,Dp n x)→peqs xs xs=true
 | _,[],_=>rfl
 | n,x::xs,h=>by
  show(peq x x&&peqs xs xs)=true
  rw[zdA n x (h x (by simp)),zcx n xs fun y hy=>h y (by simp [hy])]
  rfl
end
def ej (xs ys:List PV) (j:Nat):Bool:=match xs[j]?,ys[j]? with
 | some x,some y=>peq x y
 | _,_=>false
theorem ej_all:∀ (xs ys:List PV),peqs xs ys=((List.range (min xs.length ys.length)).all (ej xs ys)&&xs.length==ys.length)
 | [],[]=>by simp [peqs]
 | [],y::ys=>by simp [peqs]
 | x::xs,[]=>by simp [peqs]
 | x::xs,y::ys=>by
  have ih:=ej_all xs ys
  have e1:min (x::xs).length (y::ys).length=min xs.length ys.length+1:=by simp only[List.length_cons];omega
  have e2:((x::xs).length==(y::ys).length)=(xs.length==ys.length):=by simp
  have e3:ej (x::xs) (y::ys) 0=peq x y:=rfl
  have e4:(ej (x::xs) (y::ys))∘Nat.succ=ej xs ys:=by funext j;simp [ej]
  rw[e1,e2,List.range_succ_eq_map,List.all_cons,List.all_map,e3,e4]
  show(peq x y&&peqs xs ys)=_
  rw[ih,Bool.and_assoc]
section
variable {X:Cx}{pins:List (Addr×Obj)}{σ:St}{H:Hp}{s:Shared}{N:Addr→Prop}
theorem tupL (I:Inv X pins σ H s){a:Addr}{vs ws:List V} (h1:SqT X.K H a vs) (h2:H a=some (.lst ws)):False:=by
 obtain⟨its,_,p,_⟩:=I.tuple h1
 obtain⟨its',_,q,_⟩:=I.list (SqL.of (K:=X.K) h2)
 obtain⟨o,e1,c1,_⟩:=p
 obtain⟨o',n,e2,c2,_⟩:=q
 rw[e1] at e2
 cases e2
 rw[c1] at c2
 injection c2 with c2
 exact absurd c2 (by decide)
mutual
theorem zdr (I:Inv X pins σ H s):∀ (n:Nat) (x y:PV) (v:V),Dp n x→Dp n y→RV X.K N H x v→RV X.K N H y v→peq x y=true
 | n,.non,y,v,_,hy,r1,r2=>by cases r1;cases r2<;>first | (obtain⟨m,e,_⟩:=hy;cases e;done) | rfl | simp [peq]
 | n,.bl b,y,v,_,hy,r1,r2=>by cases r1;cases r2<;>first | (obtain⟨m,e,_⟩:=hy;cases e;done) | rfl | simp [peq]
 | n,.int b,y,v,_,hy,r1,r2=>by cases r1;cases r2<;>first | (obtain⟨m,e,_⟩:=hy;cases e;done) | rfl | simp [peq]
 | n,.str b,y,v,_,hy,r1,r2=>by cases r1;cases r2<;>first | (obtain⟨m,e,_⟩:=hy;cases e;done) | rfl | simp [peq]
 | 0,.tup xs,y,v,h,_,_,_=>absurd h zbi
 | 0,.lst xs,y,v,h,_,_,_=>absurd h zca
 | n+1,.tup xs,y,v,hx,hy,r1,r2=>by
  cases r1 with
  | tup h1 h2=>
   cases r2 with
   | raw=>obtain⟨m,e,_⟩:=hy;cases e
   | tup g1 g2=>
    have e:=I.tuple_inj h1 g1
    subst e
    exact zdq I n _ _ _ (dp_all.mp (dp_tup.mp hx)) (dp_all.mp (dp_tup.mp hy)) h2 g2
   | lst _ g1 g2=>exact(tupL I h1 g1).elim
   | dic _ _ _=>obtain⟨m,e,_⟩:=hy;cases e
 | n+1,.lst xs,y,v,hx,hy,r1,r2=>by
  cases r1 with
  | lst _ h1 h2=>
   cases r2 with
   | raw=>obtain⟨m,e,_⟩:=hy;cases e
   | tup g1 g2=>exact(tupL I g1 h1).elim
   | lst _ g1 g2=>
    rw[h1] at g1
    cases g1
    exact zdq I n _ _ _ (dp_all.mp (dp_lst.mp hx)) (dp_all.mp (dp_lst.mp hy)) h2 g2
   | dic _ _ _=>obtain⟨m,e,_⟩:=hy;cases e
 | _,.raw v,_,_,⟨m,e,_⟩,_,_,_=>by cases e
 | _,.dic v,_,_,⟨m,e,_⟩,_,_,_=>by cases e
theorem zdq (I:Inv X pins σ H s):∀ (n:Nat) (xs ys:List PV) (vs:List V),(∀ x∈xs,Dp n x)→(∀ x∈ys,Dp n x)→RVs X.K N H xs vs→RVs X.K N H ys vs→peqs xs ys=true
 | _,[],ys,_,_,_,.nil,r2=>by cases r2;rfl
 | n,x::xs,ys,_,hx,hy,.cons r1 q1,r2=>by
  cases r2 with
  | cons r2 q2=>
   show(peq x _&&peqs xs _)=true
   rw[zdr I n x _ _ (hx x (by simp)) (hy _ (by simp)) r1 r2,zdq I n xs _ _ (fun y h=>hx y (by simp [h])) (fun y h=>hy y (by simp [h])) q1 q2]
   rfl
end
theorem zcn {A:Around}{n:Nat}{xs ys:List PV}{vs ws:List V}{us us':List Value} (r1:RVs X.K N H xs vs) (r2:RVs X.K N H ys ws) (q1:Vals vs us) (q2:Vals ws us') (d1:∀ x∈xs,Dp n x) (d2:∀ x∈ys,Dp n x)
  (hR:∀ x y v w u u',Dp n x→Dp n y→RV X.K N H x v→RV X.K N H y w→RelV v u→RelV w u'→SeqAt.EqAt A s u u' (peq x y)):∀ j (h1:j<us.toArray.size) (h2:j<us'.toArray.size),SeqAt.EqAt A s us.toArray[j] us'.toArray[j] (ej xs ys j):=by
 refine eqs_items (R:=fun v w b=>∃ x y,Dp n x∧Dp n y∧RV X.K N H x v∧RV X.K N H y w∧b=peq x y) q1 q2 (fun j v w hv hw=>?_) fun v w b u u' ⟨x,y,e1,e2,e3,e4,e5⟩ ru rw=>by subst e5;exact hR x y v w u u' e1 e2 e3 e4 ru rw
 obtain⟨x,hx,rx⟩:=r1.at' hv
 obtain⟨y,hy,ry⟩:=r2.at' hw
 refine⟨x,y,d1 x (List.mem_of_getElem? hx),d2 y (List.mem_of_getElem? hy),rx,ry,?_⟩
 unfold ej
 rw[hx,hy]
theorem rc_tt {A:Around}{n:Nat}{xs ys:List PV}{vs ws:List V}{a b:Addr} (I:Inv X pins σ H s) (hu:A.units<cLine) (h1:SqT X.K H a vs) (h2:SqT X.K H b ws) (r1:RVs X.K N H xs vs) (r2:RVs X.K N H ys ws) (d1:∀ x∈xs,Dp n x) (d2:∀ x∈ys,Dp n x)
  (hR:∀ x y v w u u',Dp n x→Dp n y→RV X.K N H x v→RV X.K N H y w→RelV v u→RelV w u'→SeqAt.EqAt A.in1 s u u' (peq x y)):SeqAt.RcAt A s (.ref a) (.ref b) (peqs xs ys)∧SeqAt.RcNeAt A s (.ref a) (.ref b) (!peqs xs ys):=by
 obtain⟨us,q1,p1,_⟩:=I.tuple h1
 obtain⟨us',q2,p2,_⟩:=I.tuple h2
 have z:=SeqAt.RcAt.tuples (A:=A) (s:=s) (e:=ej xs ys) (show s.heap.IsTuple a us.toArray from p1) (show s.heap.IsTuple b us'.toArray from p2) hu (zcn r1 r2 q1 q2 d1 d2 hR)
 have z2:=SeqAt.RcNeAt.tuples (A:=A) (s:=s) (e:=ej xs ys) (show s.heap.IsTuple a us.toArray from p1) (show s.heap.IsTuple b us'.toArray from p2) hu (zcn r1 r2 q1 q2 d1 d2 hR)
 simp only[List.size_toArray] at z z2
 rw[← q1.length,← q2.length,← r1.len,← r2.len] at z z2
 rw[ej_all]
 exact⟨z,z2⟩
theorem rc_ll {A:Around}{n:Nat}{xs ys:List PV}{vs ws:List V}{a b:Addr} (I:Inv X pins σ H s) (hu:A.units<cLine) (h1:H a=some (.lst vs)) (h2:H b=some (.lst ws)) (r1:RVs X.K N H xs vs) (r2:RVs X.K N H ys ws) (d1:∀ x∈xs,Dp n x) (d2:∀ x∈ys,Dp n x)
  (hR:∀ x y v w u u',Dp n x→Dp n y→RV X.K N H x v→RV X.K N H y w→RelV v u→RelV w u'→SeqAt.EqAt A.in1 s u u' (peq x y)):SeqAt.RcAt A s (.ref a) (.ref b) (peqs xs ys)∧SeqAt.RcNeAt A s (.ref a) (.ref b) (!peqs xs ys):=by
 obtain⟨us,q1,p1,_⟩:=I.list (SqL.of (K:=X.K) h1)
 obtain⟨us',q2,p2,_⟩:=I.list (SqL.of (K:=X.K) h2)
 have l1:=q1.length
 have l2:=q2.length
 have l3:=r1.len
 have l4:=r2.len
 rw[ej_all]
 by_cases hz:xs.length=ys.length
 ·have z:=SeqAt.RcAt.lists (A:=A) (s:=s) (e:=ej xs ys) p1.isList p2.isList (by simp;omega) hu (zcn r1 r2 q1 q2 d1 d2 hR)
  have z2:=SeqAt.RcNeAt.lists (A:=A) (s:=s) (e:=ej xs ys) p1.isList p2.isList (by simp;omega) hu (zcn r1 r2 q1 q2 d1 d2 hR)
  simp only[List.size_toArray] at z z2
  rw[← l1,← l3] at z z2
  rw[hz,Nat.min_self,beq_self_eq_true,Bool.and_true,← hz]
  exact⟨z,z2⟩
 ·rw[show(xs.length==ys.length)=false by simpa using hz,Bool.and_false]
  exact⟨SeqAt.RcAt.lists_lengths (A:=A) (s:=s) p1.isList p2.isList (by simp;omega) hu,SeqAt.RcNeAt.lists_lengths (A:=A) (s:=s) p1.isList p2.isList (by simp;omega) hu⟩
def pfl:PV→Bool
 | .non=>true
 | .bl _=>true
 | .int _=>true
 | .str _=>true
 | _=>false
theorem zbY {x:PV}{v:V} (h:pfl x=true) (r:RV X.K N H x v):flatV v=true:=by
 cases r<;>first | rfl | cases h
theorem zfi {x y:PV}{v w:V} (hx:pfl x=true) (hy:pfl y=true) (r1:RV X.K N H x v) (r2:RV X.K N H y w):eqV v w=peq x y:=by
 cases r1<;>(first | (cases hx;done) | (cases r2<;>first | (cases hy;done) | rfl))
theorem zdQ (I:Inv X pins σ H s):∀ (n:Nat) (A:Around) (x y:PV) (v w:V) (u u':Value),A.units+n<cLine→Dp n x→Dp n y→RV X.K N H x v→RV X.K N H y w→RelV v u→RelV w u'→SeqAt.EqAt A s u u' (peq x y):=by
 intro n
 induction n with
 | zero=>
  intro A x y v w u u' hu hx hy r1 r2 q1 q2
  have fx:pfl x=true:=by
   cases x<;>first | rfl | exact absurd hx zbi | exact absurd hx zca | (obtain⟨m,e,_⟩:=hx;cases e)
  have fy:pfl y=true:=by
   cases y<;>first | rfl | exact absurd hy zbi | exact absurd hy zca | (obtain⟨m,e,_⟩:=hy;cases e)
  rw[← zfi fx fy r1 r2]
  exact zeA (zbY fx r1) (zbY fy r2) q1 q2
 | succ n ih=>
  intro A x y v w u u' hu hx hy r1 r2 q1 q2
  by_cases fx:pfl x=true
  ·by_cases fy:pfl y=true
   ·rw[← zfi fx fy r1 r2]
    exact zeA (zbY fx r1) (zbY fy r2) q1 q2
   ·cases r2<;>first | exact absurd rfl fy | (obtain⟨m,e,_⟩:=hy;cases e;done) | skip
    ·rename_i a xs vs h1 h2
     cases q2
     obtain⟨us,_,p,_⟩:=I.tuple h1
     have p':s.heap.IsTuple a us.toArray:=p
     cases r1<;>first | (cases fx;done) | skip
     ·cases q1;exact SeqAt.EqAt.none_tuple p' (by omega)
     ·cases q1;exact SeqAt.EqAt.bool_tuple _ p' (by omega)
     ·obtain⟨t,rfl⟩:=q1;exact SeqAt.EqAt.int_tuple _ _ p' (by omega)
     ·obtain⟨t,rfl⟩:=q1;exact SeqAt.EqAt.str_tuple _ _ p' (by omega)
    ·rename_i a xs vs na h1 h2
     cases q2
     obtain⟨us,_,p,_⟩:=I.list (SqL.of (K:=X.K) h1)
     have p':=p.isList
     cases r1<;>first | (cases fx;done) | skip
     ·cases q1;exact SeqAt.EqAt.none_list p' (by omega)
     ·cases q1;exact SeqAt.EqAt.bool_list _ p' (by omega)
     ·obtain⟨t,rfl⟩:=q1;exact SeqAt.EqAt.int_list _ _ p' (by omega)
     ·obtain⟨t,rfl⟩:=q1;exact SeqAt.EqAt.str_list _ _ p' (by omega)
  ·cases r1<;>first | exact absurd rfl fx | (obtain⟨m,e,_⟩:=hx;cases e;done) | skip
   ·rename_i a xs vs h1 h2
    cases q1
    obtain⟨us,_,p,_⟩:=I.tuple h1
    have p':s.heap.IsTuple a us.toArray:=p
    cases r2<;>first | (obtain⟨m,e,_⟩:=hy;cases e;done) | skip
    ·cases q2;exact SeqAt.EqAt.tuple_none p' (by omega)
    ·cases q2;exact SeqAt.EqAt.tuple_bool _ p' (by omega)
    ·obtain⟨t,rfl⟩:=q2;exact SeqAt.EqAt.tuple_int _ _ p' (by omega)
    ·obtain⟨t,rfl⟩:=q2;exact SeqAt.EqAt.tuple_str _ _ p' (by omega)
    ·rename_i b ys ws g1 g2
     cases q2
     by_cases e:a=b
     ·subst e
      rw[zdr I (n+1) _ _ _ hx hy (.tup h1 h2) (.tup g1 g2)]
      exact SeqAt.EqAt.same _
     ·exact .of_refs e (rc_tt I (by omega) h1 g1 h2 g2 (dp_all.mp (dp_tup.mp hx)) (dp_all.mp (dp_tup.mp hy)) fun x y v w u u' a1 a2 a3 a4 a5 a6=>ih A.in1 x y v w u u' (by rw[zav];omega) a1 a2 a3 a4 a5 a6).1
    ·rename_i b ys ws nb g1 g2
     cases q2
     obtain⟨us',_,p2,_⟩:=I.list (SqL.of (K:=X.K) g1)
     exact SeqAt.EqAt.tuple_list p' p2.isList (by omega)
   ·rename_i a xs vs na h1 h2
    cases q1
    obtain⟨us,_,p,_⟩:=I.list (SqL.of (K:=X.K) h1)
    have p':=p.isList
    cases r2<;>first | (obtain⟨m,e,_⟩:=hy;cases e;done) | skip
    ·cases q2;exact SeqAt.EqAt.list_none p' (by omega)
    ·cases q2;exact SeqAt.EqAt.list_bool _ p' (by omega)
    ·obtain⟨t,rfl⟩:=q2;exact SeqAt.EqAt.list_int _ _ p' (by omega)
    ·obtain⟨t,rfl⟩:=q2;exact SeqAt.EqAt.list_str _ _ p' (by omega)
    ·rename_i b ys ws g1 g2
     cases q2
     obtain⟨us',_,p2,_⟩:=I.tuple g1
     exact SeqAt.EqAt.list_tuple p' (show s.heap.IsTuple b us'.toArray from p2) (by omega)
    ·rename_i b ys ws nb g1 g2
     cases q2
     by_cases e:a=b
     ·subst e
      rw[zdr I (n+1) _ _ _ hx hy (.lst na h1 h2) (.lst nb g1 g2)]
      exact SeqAt.EqAt.same _
     ·exact .of_refs e (rc_ll I (by omega) h1 g1 h2 g2 (dp_all.mp (dp_lst.mp hx)) (dp_all.mp (dp_lst.mp hy)) fun x y v w u u' a1 a2 a3 a4 a5 a6=>ih A.in1 x y v w u u' (by rw[zav];omega) a1 a2 a3 a4 a5 a6).1
end
end L2
namespace L2
open PySem PySem.Spec PyProof.Rows
mutual
def nrm:PV→PV
 | .bl b=>.int (if b then 1 else 0)
 | .tup xs=>.tup (nrms xs)
 | .lst xs=>.lst (nrms xs)
 | x=>x
def nrms:List PV→List PV
 | []=>[]
 | x::xs=>nrm x::nrms xs
end
mutual
theorem zdB:∀ (n:Nat) (x y:PV),Dp n x→Dp n y→(peq x y=true↔nrm x=nrm y)
 | n,.non,y,_,hy=>by cases y<;>first | (obtain⟨m,e,_⟩:=hy;cases e;done) | simp [peq,nrm]
 | n,.bl b,y,_,hy=>by cases y<;>first | (obtain⟨m,e,_⟩:=hy;cases e;done) | (simp [peq,nrm];done) | (rename_i c;cases b<;>cases c<;>simp [peq,nrm])
 | n,.int b,y,_,hy=>by cases y<;>first | (obtain⟨m,e,_⟩:=hy;cases e;done) | simp [peq,nrm]
 | n,.str b,y,_,hy=>by cases y<;>first | (obtain⟨m,e,_⟩:=hy;cases e;done) | simp [peq,nrm]
 | 0,.tup xs,y,h,_=>absurd h zbi
 | 0,.lst xs,y,h,_=>absurd h zca
 | n+1,.tup xs,y,hx,hy=>by
  cases y with
  | tup ys=>
   show peqs xs ys=true↔PV.tup (nrms xs)=PV.tup (nrms ys)
   rw[zdz n xs ys (dp_all.mp (dp_tup.mp hx)) (dp_all.mp (dp_tup.mp hy))]
   simp
  | raw _=>obtain⟨m,e,_⟩:=hy;cases e
  | dic _=>obtain⟨m,e,_⟩:=hy;cases e
  | _=>simp [peq,nrm]
 | n+1,.lst xs,y,hx,hy=>by
  cases y with
  | lst ys=>
   show peqs xs ys=true↔PV.lst (nrms xs)=PV.lst (nrms ys)
   rw[zdz n xs ys (dp_all.mp (dp_lst.mp hx)) (dp_all.mp (dp_lst.mp hy))]
   simp
  | raw _=>obtain⟨m,e,_⟩:=hy;cases e
  | dic _=>obtain⟨m,e,_⟩:=hy;cases e
  | _=>simp [peq,nrm]
 | _,.raw v,_,⟨m,e,_⟩,_=>by cases e
 | _,.dic v,_,⟨m,e,_⟩,_=>by cases e
theorem zdz:∀ (n:Nat) (xs ys:List PV),(∀ x∈xs,Dp n x)→(∀ x∈ys,Dp n x)→(peqs xs ys=true↔nrms xs=nrms ys)
 | _,[],ys,_,_=>by cases ys<;>simp [peqs,nrms]
 | n,x::xs,ys,hx,hy=>by
  cases ys with
  | nil=>simp [peqs,nrms]
  | cons y ys=>
   show(peq x y&&peqs xs ys)=true↔nrm x::nrms xs=nrm y::nrms ys
   rw[Bool.and_eq_true,zdB n x y (hx x (by simp)) (hy y (by simp)),zdz n xs ys (fun z h=>hx z (by simp [h])) (fun z h=>hy z (by simp [h]))]
   simp
end
def RVr (K:PySem.W.Frag) (N:Addr→Prop) (H:Hp) (p:PV) (v:V):Prop:=RV K N H p v∨∃ a xs vs,p=.lst xs∧v=.ref a∧H a=some (.lst vs)∧RVs K N H xs vs
theorem RVq.r {K:PySem.W.Frag}{A:AS}{H:Hp}{σ:St}{p:PV}{v:V} (R:Rep K H σ A) (h:RVq K A H p v) (hd:∀ k,p≠.dic k):RVr K (AN A) H p v:=by
 rcases id h with h' | ⟨i,a,c,hl,rfl,rfl⟩
 ·exact .inl h'
 ·cases c with
  | lst xs=>obtain⟨a,vs,h1,h2,h3⟩:=h.lst R;exact .inr ⟨a,xs,vs,rfl,h1,h2,h3⟩
  | dic xs=>exact absurd rfl (hd xs)
  | ins _ _ _=>exact hl.2.elim
def rEqP (K:PySem.W.Frag) (neg:Bool):R2:=fun x y H Q=>∃ N px py n,n≤80∧Dp n px∧Dp n py∧RVr K N H px x∧RVr K N H py y∧Q (.bl (neg^^peq px py)) H
section
variable {X:Cx}{pins:List (Addr×Obj)}{σ:St}{H:Hp}{s:Shared}{N:Addr→Prop}
theorem rc_flat {A:Around}{x y:V}{u v:Value} (fx:flatV x=true) (fy:flatV y=true) (rx:RelV x u) (ry:RelV y v):SeqAt.RcAt A s u v (eqV x y)∧SeqAt.RcNeAt A s u v (!eqV x y):=by
 cases x<;>first | (cases fx;done) | skip
 ·cases rx
  cases y<;>first | (cases fy;done) | skip
  ·cases ry;exact⟨.none_none,.none_none⟩
  ·cases ry;exact⟨.none_bool _,.none_bool _⟩
  ·obtain⟨t,rfl⟩:=ry;exact⟨.none_int _ _,.none_int _ _⟩
  ·obtain⟨t,rfl⟩:=ry;exact⟨.none_str _ _,.none_str _ _⟩
 ·cases rx
  cases y<;>first | (cases fy;done) | skip
  ·cases ry;exact⟨.bool_none _,.bool_none _⟩
  ·cases ry;exact⟨.bool_bool _ _,.bool_bool _ _⟩
  ·obtain⟨t,rfl⟩:=ry;exact⟨.bool_int _ _ _,.bool_int _ _ _⟩
  ·obtain⟨t,rfl⟩:=ry;exact⟨.bool_str _ _ _,.bool_str _ _ _⟩
 ·obtain⟨t,rfl⟩:=rx
  cases y<;>first | (cases fy;done) | skip
  ·cases ry;exact⟨.int_none _ _,.int_none _ _⟩
  ·cases ry;exact⟨.int_bool _ _ _,.int_bool _ _ _⟩
  ·obtain⟨t,rfl⟩:=ry;exact⟨.int_int _ _ _ _,.int_int _ _ _ _⟩
  ·obtain⟨t,rfl⟩:=ry;exact⟨.int_str _ _ _ _,.int_str _ _ _ _⟩
 ·obtain⟨t,rfl⟩:=rx
  cases y<;>first | (cases fy;done) | skip
  ·cases ry;exact⟨.str_none _ _,.str_none _ _⟩
  ·cases ry;exact⟨.str_bool _ _ _,.str_bool _ _ _⟩
  ·obtain⟨t,rfl⟩:=ry;exact⟨.str_int _ _ _ _,.str_int _ _ _ _⟩
  ·obtain⟨t,rfl⟩:=ry;exact⟨.str_str _ _ _ _,.str_str _ _ _ _⟩
theorem RVr.get {p:PV}{v:V}{n:Nat} (d:Dp n p) (h:RVr X.K N H p v):(pfl p=true∧RV X.K N H p v)∨(∃ xs a vs m,n=m+1∧p=.tup xs∧v=.ref a∧SqT X.K H a vs∧RVs X.K N H xs vs∧∀ x∈xs,Dp m x) ∨
  ∃ xs a vs m,n=m+1∧p=.lst xs∧v=.ref a∧H a=some (.lst vs)∧RVs X.K N H xs vs∧∀ x∈xs,Dp m x:=by
 have g:∀ xs,p=.lst xs→∃ m,n=m+1∧∀ x∈xs,Dp m x:=fun xs e=>by
  subst e
  cases n with
  | zero=>exact absurd d zca
  | succ m=>exact⟨m,rfl,dp_all.mp (dp_lst.mp d)⟩
 rcases h with h | ⟨a,xs,vs,e,rfl,h1,h2⟩
 ·cases id h<;>first | exact .inl ⟨rfl,h⟩ | skip
  ·obtain⟨m,e,_⟩:=d;cases e
  ·rename_i a xs vs h1 h2
   cases n with
   | zero=>exact absurd d zbi
   | succ m=>exact .inr (.inl ⟨xs,a,vs,m,rfl,rfl,rfl,h1,h2,dp_all.mp (dp_tup.mp d)⟩)
  ·rename_i a xs vs _ h1 h2
   obtain⟨m,e,q⟩:=g xs rfl
   exact .inr (.inr ⟨xs,a,vs,m,e,rfl,rfl,h1,h2,q⟩)
  ·obtain⟨m,e,_⟩:=d;cases e
 ·obtain⟨m,e',q⟩:=g xs e
  exact .inr (.inr ⟨xs,a,vs,m,e',e,rfl,h1,h2,q⟩)
theorem rc_pv (I:Inv X pins σ H s){n:Nat}{A:Around}{x y:PV}{v w:V}{u u':Value} (hu:A.units+n<cLine) (hx:Dp n x) (hy:Dp n y) (r1:RVr X.K N H x v) (r2:RVr X.K N H y w) (q1:RelV v u) (q2:RelV w u') :
  SeqAt.RcAt A s u u' (peq x y)∧SeqAt.RcNeAt A s u u' (!peq x y):=by
 have deep:∀ m,n=m+1→∀ x y v w u u',Dp m x→Dp m y→RV X.K N H x v→RV X.K N H y w→RelV v u→RelV w u'→SeqAt.EqAt A.in1 s u u' (peq x y):=fun m e x y v w u u' a1 a2 a3 a4 a5 a6=>zdQ I m A.in1 x y v w u u' (by rw[zav];omega) a1 a2 a3 a4 a5 a6
 have hu0:A.units<cLine:=by omega
 rcases r1.get hx with ⟨fx,r1⟩ | ⟨xs,a,vs,m,e,rfl,rfl,h1,h2,d1⟩ | ⟨xs,a,vs,m,e,rfl,rfl,h1,h2,d1⟩
 ·rcases r2.get hy with ⟨fy,r2⟩ | ⟨ys,b,ws,m',e',rfl,rfl,g1,g2,d2⟩ | ⟨ys,b,ws,m',e',rfl,rfl,g1,g2,d2⟩
  ·rw[← zfi fx fy r1 r2]
   exact rc_flat (zbY fx r1) (zbY fy r2) q1 q2
  ·cases q2
   obtain⟨us,_,p,_⟩:=I.tuple g1
   have p':s.heap.IsTuple b us.toArray:=p
   cases r1<;>first | (cases fx;done) | skip
   ·cases q1;exact⟨.none_tuple p' hu0,.none_tuple p' hu0⟩
   ·cases q1;exact⟨.bool_tuple _ p' hu0,.bool_tuple _ p' hu0⟩
   ·obtain⟨t,rfl⟩:=q1;exact⟨.int_tuple _ _ p' hu0,.int_tuple _ _ p' hu0⟩
   ·obtain⟨t,rfl⟩:=q1;exact⟨.str_tuple _ _ p' hu0,.str_tuple _ _ p' hu0⟩
  ·cases q2
   obtain⟨us,_,p,_⟩:=I.list (SqL.of (K:=X.K) g1)
   have p':=p.isList
   cases r1<;>first | (cases fx;done) | skip
   ·cases q1;exact⟨.none_list p' hu0,.none_list p' hu0⟩
   ·cases q1;exact⟨.bool_list _ p' hu0,.bool_list _ p' hu0⟩
   ·obtain⟨t,rfl⟩:=q1;exact⟨.int_list _ _ p' hu0,.int_list _ _ p' hu0⟩
   ·obtain⟨t,rfl⟩:=q1;exact⟨.str_list _ _ p' hu0,.str_list _ _ p' hu0⟩
 ·cases q1
  obtain⟨us,_,p,_⟩:=I.tuple h1
  have p':s.heap.IsTuple a us.toArray:=p
  rcases r2.get hy with ⟨fy,r2⟩ | ⟨ys,b,ws,m',e',rfl,rfl,g1,g2,d2⟩ | ⟨ys,b,ws,m',e',rfl,rfl,g1,g2,d2⟩
  ·cases r2<;>first | (cases fy;done) | skip
   ·cases q2;exact⟨.tuple_none p' hu0,.tuple_none p' hu0⟩
   ·cases q2;exact⟨.tuple_bool _ p' hu0,.tuple_bool _ p' hu0⟩
   ·obtain⟨t,rfl⟩:=q2;exact⟨.tuple_int _ _ p' hu0,.tuple_int _ _ p' hu0⟩
   ·obtain⟨t,rfl⟩:=q2;exact⟨.tuple_str _ _ p' hu0,.tuple_str _ _ p' hu0⟩
  ·cases q2
   have em:m'=m:=by omega
   subst em
   exact rc_tt I hu0 h1 g1 h2 g2 d1 d2 (deep _ e)
  ·cases q2
   obtain⟨us',_,p2,_⟩:=I.list (SqL.of (K:=X.K) g1)
   exact⟨.tuple_list p' p2.isList hu0,.tuple_list p' p2.isList hu0⟩
 ·cases q1
  obtain⟨us,_,p,_⟩:=I.list (SqL.of (K:=X.K) h1)
  have p':=p.isList
  rcases r2.get hy with ⟨fy,r2⟩ | ⟨ys,b,ws,m',e',rfl,rfl,g1,g2,d2⟩ | ⟨ys,b,ws,m',e',rfl,rfl,g1,g2,d2⟩
  ·cases r2<;>first | (cases fy;done) | skip
   ·cases q2;exact⟨.list_none p' hu0,.list_none p' hu0⟩
   ·cases q2;exact⟨.list_bool _ p' hu0,.list_bool _ p' hu0⟩
   ·obtain⟨t,rfl⟩:=q2;exact⟨.list_int _ _ p' hu0,.list_int _ _ p' hu0⟩
   ·obtain⟨t,rfl⟩:=q2;exact⟨.list_str _ _ p' hu0,.list_str _ _ p' hu0⟩
  ·cases q2
   obtain⟨us',_,p2,_⟩:=I.tuple g1
   exact⟨.list_tuple p' (show s.heap.IsTuple b us'.toArray from p2) hu0,.list_tuple p' (show s.heap.IsTuple b us'.toArray from p2) hu0⟩
  ·cases q2
   have em:m'=m:=by omega
   subst em
   exact rc_ll I hu0 h1 g1 h2 g2 d1 d2 (deep _ e)
end
section
variable {X:Cx}
theorem op_eqP (hu:X.A.units+100<cLine):OpR X (compareOp .Eq) (rEqP X.K false):=by
 intro pins s σ H x y v u Q I rx ry h
 obtain⟨N,px,py,n,hn,d1,d2,r1,r2,q⟩:=h
 exact(rc_pv I (by omega) d1 d2 r1 r2 rx ry).1 X.prog X.w X.xe _ ⟨.bl _,H,I,rfl,by simpa using q⟩
theorem op_neP (hu:X.A.units+100<cLine):OpR X (compareOp .NotEq) (rEqP X.K true):=by
 intro pins s σ H x y v u Q I rx ry h
 obtain⟨N,px,py,n,hn,d1,d2,r1,r2,q⟩:=h
 exact(rc_pv I (by omega) d1 d2 r1 r2 rx ry).2 X.prog X.w X.xe _ ⟨.bl _,H,I,rfl,by simpa using q⟩
end
def gEq (neg:Bool):G2:=fun x y z=>(∃ n,n≤80∧Dp n x∧Dp n y)∧z=.bl (neg^^peq x y)
theorem br_eq {K:PySem.W.Frag}{neg:Bool}:Br2 K (rEqP K neg) (gEq neg):=by
 intro H A σ x y v w z Q R q1 q2 g c
 obtain⟨⟨n,hn,d1,d2⟩,rfl⟩:=g
 have nd:∀ {x:PV},Dp n x→∀ k,x≠.dic k:=fun d k e=>by subst e;obtain⟨m,e,_⟩:=d;cases e
 exact⟨AN A,x,y,n,hn,d1,d2,q1.r R (nd d1),q2.r R (nd d2),c _ H (Same.refl H) (.bl _)⟩
section
variable {X:Cx}{K:PySem.W.Frag}{a b:Expr}{ua ub:UE}{pos:Pos}{k:Nat}
theorem e_eq (hK:X.K=K) (hr:Room k X.A) (ha:PE X a (liftQ K ua)) (hb:PE X b (liftQ K ub)):PE X (.Compare a [.Eq] [b] pos) (liftV K (u2 (gEq false) ua ub)):=by
 subst hK
 exact s_cmp (op_eqP (by have:=hr.un;omega)) br_eq ha hb (nomark _)
theorem t_eq (hK:X.K=K) (hr:Room k X.A) (ha:PE X a (liftQ K ua)) (hb:PE X b (liftQ K ub)):PT X (.Compare a [.Eq] [b] pos) (liftT K (u2t (gEq false) ua ub)):=by
 subst hK
 exact zbx (op_eqP (by have:=hr.un;omega)) br_eq ha hb (nomark _)
theorem t_ne (hK:X.K=K) (hr:Room k X.A) (ha:PE X a (liftQ K ua)) (hb:PE X b (liftQ K ub)):PT X (.Compare a [.NotEq] [b] pos) (liftT K (u2t (gEq true) ua ub)):=by
 subst hK
 exact zbx (op_neP (by have:=hr.un;omega)) br_eq ha hb (nomark _)
end
end L2
namespace L2
open PySem PySem.Spec PyProof.Rows
def pin (x:PV) (ys:List PV):Bool:=ys.any fun y=>peq y x
open Classical in
noncomputable def eIn (K:PySem.W.Frag) (N:Addr→Prop) (H:Hp) (n:Nat) (px:PV) (u:Value):Bool:=decide (∃ p v,RelV v u∧RV K N H p v∧Dp n p∧peq p px=true)
section
variable {X:Cx}{pins:List (Addr×Obj)}{σ:St}{H:Hp}{s:Shared}{N:Addr→Prop}
open Classical in
theorem eIn_of (I:Inv X pins σ H s){n:Nat}{px p:PV}{v:V}{u:Value} (dx:Dp n px) (dp:Dp n p) (r:RV X.K N H p v) (q:RelV v u):eIn X.K N H n px u=peq p px:=by
 unfold eIn
 by_cases e:peq p px=true
 ·rw[e]
  exact decide_eq_true ⟨p,v,q,r,dp,e⟩
 ·have e':peq p px=false:=by simpa using e
  rw[e']
  refine decide_eq_false ?_
  rintro⟨p',v',q',r',dp',e2⟩
  have ev:=q'.inj q
  subst ev
  have z:=(zdB n p' p dp' dp).mp (zdr I n p' p _ dp' dp r' r)
  have z2:=(zdB n p' px dp' dx).mp e2
  exact e ((zdB n p px dp dx).mpr (z.symm.trans z2))
theorem zcQ (I:Inv X pins σ H s){n:Nat}{px:PV} (dx:Dp n px):∀ {ps:List PV}{vs:List V}{us:List Value},RVs X.K N H ps vs→Vals vs us→(∀ p∈ps,Dp n p)→us.any (eIn X.K N H n px)=pin px ps
 | _,_,_,.nil,.nil,_=>rfl
 | _,_,_,.cons r rs,.cons q qs,d=>by
  rw[List.any_cons,eIn_of I dx (d _ (by simp)) r q,zcQ I dx rs qs fun p h=>d p (by simp [h])]
  rfl
theorem zbS (I:Inv X pins σ H s){A:Around}{n:Nat}{px:PV}{x:V}{ux:Value} (hu:A.units+n<cLine) (dx:Dp n px) (rx:RV X.K N H px x) (qx:RelV x ux):∀ {ps:List PV}{vs:List V}{us:List Value},RVs X.K N H ps vs→Vals vs us→(∀ p∈ps,Dp n p) →
  ∀ u∈us,SeqAt.EqAt A s u ux (eIn X.K N H n px u)
 | _,_,_,.nil,.nil,_=>fun u h=>nomatch h
 | _,_,_,.cons r rs,.cons q qs,d=>fun u h=>by
  rcases List.mem_cons.mp h with rfl | h
  ·rw[eIn_of I dx (d _ (by simp)) r q]
   exact zdQ I n A _ _ _ _ _ _ hu (d _ (by simp)) dx r rx q qx
  ·exact zbS I hu dx rx qx rs qs (fun p h=>d p (by simp [h])) u h
end
def rInP (K:PySem.W.Frag) (neg:Bool):R2:=fun x y H Q=>∃ N px pys n,n≤80∧Dp n px∧(∀ p∈pys,Dp n p)∧RV K N H px x∧(∃ a vs,y=.ref a∧(SqT K H a vs∨H a=some (.lst vs))∧RVs K N H pys vs)∧Q (.bl (neg^^pin px pys)) H
section
variable {X:Cx}
theorem op_inP (hu:X.A.units+100<cLine):OpR X (compareOp .In) (rInP X.K false):=by
 intro pins s σ H x y v u Q I rx ry h
 obtain⟨N,px,pys,n,hn,dx,dy,r1,⟨a,vs,rfl,hq,rs⟩,q⟩:=h
 cases ry
 have q':Q (.bl (pin px pys)) H:=by simpa using q
 rcases hq with hq | hq
 ·obtain⟨its,r,pl,hz⟩:=I.tuple hq
  refine SeqAt.in_tupleAt (eIn X.K N H n px) pl (fun w hw=>zbS I (by rw[zav];omega) dx r1 rx rs r dy w (by simpa using hw)) ⟨.bl _,H,I,rfl,?_⟩
  rw[show its.toArray.any (eIn X.K N H n px)=its.any (eIn X.K N H n px) by simp,zcQ I dx rs r dy]
  exact q'
 ·obtain⟨its,r,pl,hz⟩:=I.list (SqL.of (K:=X.K) hq)
  refine SeqAt.in_listAt (eIn X.K N H n px) pl.isList (fun w hw=>zbS I (by rw[zav];omega) dx r1 rx rs r dy w (by simpa using hw)) ⟨.bl _,H,I,rfl,?_⟩
  rw[show its.toArray.any (eIn X.K N H n px)=its.any (eIn X.K N H n px) by simp,zcQ I dx rs r dy]
  exact q'
theorem op_notInP (hu:X.A.units+100<cLine):OpR X (compareOp .NotIn) (rInP X.K true):=by
 intro pins s σ H x y v u Q I rx ry h
 obtain⟨N,px,pys,n,hn,dx,dy,r1,⟨a,vs,rfl,hq,rs⟩,q⟩:=h
 cases ry
 have q':Q (.bl (!pin px pys)) H:=by simpa using q
 rcases hq with hq | hq
 ·obtain⟨its,r,pl,hz⟩:=I.tuple hq
  refine SeqAt.notIn_tupleAt (eIn X.K N H n px) pl (fun w hw=>zbS I (by rw[zav];omega) dx r1 rx rs r dy w (by simpa using hw)) ⟨.bl _,H,I,rfl,?_⟩
  rw[show its.toArray.any (eIn X.K N H n px)=its.any (eIn X.K N H n px) by simp,zcQ I dx rs r dy]
  exact q'
 ·obtain⟨its,r,pl,hz⟩:=I.list (SqL.of (K:=X.K) hq)
  refine SeqAt.notIn_listAt (eIn X.K N H n px) pl.isList (fun w hw=>zbS I (by rw[zav];omega) dx r1 rx rs r dy w (by simpa using hw)) ⟨.bl _,H,I,rfl,?_⟩
  rw[show its.toArray.any (eIn X.K N H n px)=its.any (eIn X.K N H n px) by simp,zcQ I dx rs r dy]
  exact q'
end
def occ (i j:Str):Bool:=!(Builtin.Str.occurrences j i 0 j.length 1).isEmpty
def rInS (neg:Bool):R2:=fun x y H Q=>∃ i j,x=.str i∧y=.str j∧Q (.bl (neg^^occ i j)) H
def rInA (K:PySem.W.Frag) (neg:Bool):R2:=fun x y H Q=>rInP K neg x y H Q∨rInS neg x y H Q
def gIn (neg:Bool):G2
 | x,.tup ys,z=>(∀ c:OC,x≠c.pv)∧(∃ n,n≤80∧Dp n x∧∀ p∈ys,Dp n p)∧z=.bl (neg^^pin x ys)
 | x,.lst ys,z=>(∀ c:OC,x≠c.pv)∧(∃ n,n≤80∧Dp n x∧∀ p∈ys,Dp n p)∧z=.bl (neg^^pin x ys)
 | .str i,.str j,z=>z=.bl (neg^^occ i j)
 | _,_,_=>False
theorem br_in {K:PySem.W.Frag}{neg:Bool}:Br2 K (rInA K neg) (gIn neg):=by
 intro H A σ x y v w z Q R q1 q2 g c
 have main:∀ ys,((∀ c:OC,x≠c.pv)∧(∃ n,n≤80∧Dp n x∧∀ p∈ys,Dp n p)∧z=.bl (neg^^pin x ys))→(∃ a vs,w=.ref a∧(SqT K H a vs∨H a=some (.lst vs))∧RVs K (AN A) H ys vs)→rInA K neg v w H Q:=by
  rintro ys ⟨nc,⟨n,hn,d1,d2⟩,rfl⟩ h
  exact .inl ⟨AN A,x,ys,n,hn,d1,d2,q1.rv nc,h,c _ H (Same.refl H) (.bl _)⟩
 cases y with
 | tup ys=>obtain⟨a,vs,rfl,h1,h2⟩:=q2.tup;exact main ys (by cases x<;>exact g) ⟨a,vs,rfl,.inl h1,h2⟩
 | lst ys=>obtain⟨a,vs,rfl,h1,h2⟩:=q2.lst R;exact main ys (by cases x<;>exact g) ⟨a,vs,rfl,.inr h1,h2⟩
 | str j=>
  cases x<;>first | exact g.elim | skip
  cases g
  cases q1.str;cases q2.str
  exact .inr ⟨_,_,rfl,rfl,c _ H (Same.refl H) (.bl _)⟩
 | _=>cases x<;>exact g.elim
section
variable {X:Cx}{K:PySem.W.Frag}{a b:Expr}{ua ub:UE}{pos:Pos}{k:Nat}
theorem op_inA (hK:X.K=K) (hr:Room k X.A):OpR X (compareOp .In) (rInA K false):=by
 subst hK
 refine(op_inP (by have:=hr.un;omega)).or ?_
 intro pins s σ H x y v u Q I rx ry h
 obtain⟨i,j,e1,e2,q⟩:=h
 exact op_in_str pins s σ H x y v u Q I rx ry ⟨i,j,e1,e2,by simpa [occ] using q⟩
theorem op_notInA (hK:X.K=K) (hr:Room k X.A):OpR X (compareOp .NotIn) (rInA K true):=by
 subst hK
 refine(op_notInP (by have:=hr.un;omega)).or ?_
 intro pins s σ H x y v u Q I rx ry h
 obtain⟨i,j,e1,e2,q⟩:=h
 exact zen pins s σ H x y v u Q I rx ry ⟨i,j,e1,e2,by simpa [occ] using q⟩
end
def gLt:G2
 | .int i,.int j,z=>z=.bl (decide (i<j))
 | .str i,.str j,z=>z=.bl (decide (i.cps.toList<j.cps.toList))
 | _,_,_=>False
def gLe:G2
 | .int i,.int j,z=>z=.bl (decide (i≤j))
 | .str i,.str j,z=>z=.bl (!decide (j.cps.toList<i.cps.toList))
 | _,_,_=>False
def rLtA:R2:=fun x y H Q=>(rI0 fun i j=>.bl (decide (i<j))) x y H Q∨∃ i j,x=.str i∧y=.str j∧Q (.bl (decide (i.cps.toList<j.cps.toList))) H
def rLeA:R2:=fun x y H Q=>(rI0 fun i j=>.bl (decide (i≤j))) x y H Q∨∃ i j,x=.str i∧y=.str j∧Q (.bl (!(decide (j.cps.toList<i.cps.toList)))) H
theorem br_lt {K:PySem.W.Frag}:Br2 K rLtA gLt:=by
 intro H A σ x y v w z Q R q1 q2 g c
 cases x<;>cases y<;>first | exact g.elim | skip
 ·cases g;cases q1.int;cases q2.int;exact .inl ⟨_,_,rfl,rfl,c _ H (Same.refl H) (.bl _)⟩
 ·cases g;cases q1.str;cases q2.str;exact .inr ⟨_,_,rfl,rfl,c _ H (Same.refl H) (.bl _)⟩
theorem br_le {K:PySem.W.Frag}:Br2 K rLeA gLe:=by
 intro H A σ x y v w z Q R q1 q2 g c
 cases x<;>cases y<;>first | exact g.elim | skip
 ·cases g;cases q1.int;cases q2.int;exact .inl ⟨_,_,rfl,rfl,c _ H (Same.refl H) (.bl _)⟩
 ·cases g;cases q1.str;cases q2.str;exact .inr ⟨_,_,rfl,rfl,c _ H (Same.refl H) (.bl _)⟩
def isNon:PV→Bool
 | .non=>true
 | _=>false
theorem op_isB {X:Cx}:OpR X (compareOp .Is) (fun x y H Q=>∃ a b,x=.bl a∧y=.bl b∧Q (.bl (a==b)) H):=by
 intro pins s σ H x y v u Q I rx ry h
 obtain⟨a,b,rfl,rfl,q⟩:=h
 cases (show v=Value.bool a from rx)
 cases (show u=Value.bool b from ry)
 refine PySem.wpAny_is_plain (by cases a<;>cases b<;>rfl) ⟨.bl _,H,I,?_,q⟩
 cases a<;>cases b<;>rfl
def rIsA:R2:=fun x y H Q=>(y=.non∧Q (.bl (decide (x=.non))) H)∨∃ a b,x=.bl a∧y=.bl b∧Q (.bl (a==b)) H
def gIs0:G2
 | .raw _,_,_=>False
 | x,.non,z=>z=.bl (isNon x)
 | .bl a,.bl b,z=>z=.bl (a==b)
 | _,_,_=>False
def gIsN:G2
 | .raw _,_,_=>False
 | x,.non,z=>z=.bl (!isNon x)
 | _,_,_=>False
theorem non_iff {K:PySem.W.Frag}{A:AS}{H:Hp}{σ:St}{x:PV}{v:V} (R:Rep K H σ A) (q:RVq K A H x v) (nr:∀ w,x≠.raw w):decide (v=.non)=isNon x:=by
 cases x with
 | non=>cases q.non;rfl
 | bl b=>cases q.bl;rfl
 | int b=>cases q.int;rfl
 | str b=>cases q.str;rfl
 | tup xs=>obtain⟨a,vs,rfl,_⟩:=q.tup;rfl
 | lst xs=>obtain⟨a,vs,rfl,_⟩:=q.lst R;rfl
 | dic xs=>obtain⟨a,vs,rfl,_⟩:=q.dic R;rfl
 | raw w=>exact absurd rfl (nr w)
theorem br_is {K:PySem.W.Frag}:Br2 K rIsA gIs0:=by
 intro H A σ x y v w z Q R q1 q2 g c
 by_cases nr:∀ w,x≠.raw w
 ·cases y with
  | non=>
   cases q2.non
   have e:z=.bl (isNon x):=by cases x<;>first | exact g | exact g.elim
   subst e
   refine .inl ⟨rfl,?_⟩
   rw[non_iff R q1 nr]
   exact c _ H (Same.refl H) (.bl _)
  | bl b=>
   cases x<;>first | exact g.elim | skip
   cases g;cases q1.bl;cases q2.bl
   exact .inr ⟨_,_,rfl,rfl,c _ H (Same.refl H) (.bl _)⟩
  | _=>cases x<;>exact g.elim
 ·cases x<;>first | exact g.elim | exact absurd (fun w z=>by cases z) nr
theorem br_isN {K:PySem.W.Frag}:Br2 K (fun x y H Q=>y=.non∧Q (.bl (!decide (x=.non))) H) gIsN:=by
 intro H A σ x y v w z Q R q1 q2 g c
 by_cases nr:∀ w,x≠.raw w
 ·cases y with
  | non=>
   cases q2.non
   have e:z=.bl (!isNon x):=by cases x<;>first | exact g | exact g.elim
   subst e
   refine⟨rfl,?_⟩
   rw[non_iff R q1 nr]
   exact c _ H (Same.refl H) (.bl _)
  | _=>cases x<;>exact g.elim
 ·cases x<;>first | exact g.elim | exact absurd (fun w z=>by cases z) nr
section
variable {X:Cx}{K:PySem.W.Frag}{a b:Expr}{ua ub:UE}{pos:Pos}{k:Nat}
theorem e_lt (ha:PE X a (liftQ K ua)) (hb:PE X b (liftQ K ub)):PE X (.Compare a [.Lt] [b] pos) (liftV K (u2 gLt ua ub)):=s_cmp (op_lt.or zeo) br_lt ha hb (nomark _)
theorem t_lt (ha:PE X a (liftQ K ua)) (hb:PE X b (liftQ K ub)):PT X (.Compare a [.Lt] [b] pos) (liftT K (u2t gLt ua ub)):=zbx (op_lt.or zeo) br_lt ha hb (nomark _)
theorem t_le (ha:PE X a (liftQ K ua)) (hb:PE X b (liftQ K ub)):PT X (.Compare a [.LtE] [b] pos) (liftT K (u2t gLe ua ub)):=zbx (op_le.or zbf) br_le ha hb (nomark _)
theorem t_gt (ha:PE X a (liftQ K ua)) (hb:PE X b (liftQ K ub)):PT X (.Compare a [.Gt] [b] pos) (liftT K (u2t (gI0 fun i j=>.bl (decide (j<i))) ua ub)):=zbx op_gt (br_I0 fun _ _ _ _=>.bl _) ha hb (nomark _)
theorem e_is (ha:PE X a (liftQ K ua)) (hb:PE X b (liftQ K ub)):PE X (.Compare a [.Is] [b] pos) (liftV K (u2 gIs0 ua ub)):=s_cmp (op_isN.or op_isB) br_is ha hb (nomark _)
theorem t_is (ha:PE X a (liftQ K ua)) (hb:PE X b (liftQ K ub)):PT X (.Compare a [.Is] [b] pos) (liftT K (u2t gIs0 ua ub)):=zbx (op_isN.or op_isB) br_is ha hb (nomark _)
theorem e_isn (ha:PE X a (liftQ K ua)) (hb:PE X b (liftQ K ub)):PE X (.Compare a [.IsNot] [b] pos) (liftV K (u2 gIsN ua ub)):=s_cmp zeV br_isN ha hb (nomark _)
theorem t_isn (ha:PE X a (liftQ K ua)) (hb:PE X b (liftQ K ub)):PT X (.Compare a [.IsNot] [b] pos) (liftT K (u2t gIsN ua ub)):=zbx zeV br_isN ha hb (nomark _)
end
def gIx:G2
 | .tup xs,.int i,z=>atI xs i=some z
 | .lst xs,.int i,z=>atI xs i=some z
 | .str s,.int i,z=>s.length≤100000∧∃ c,atI s.cps.toList i=some c∧z=.str ⟨#[c]⟩
 | _,_,_=>False
theorem at_rv {K:PySem.W.Frag}{N:Addr→Prop}{H:Hp}{xs:List PV}{vs:List V}{i:Int}{z:PV} (r:RVs K N H xs vs) (h:atI xs i=some z):∃ v,atI vs i=some v∧RV K N H z v:=by
 unfold atI at h ⊢
 obtain⟨j,hj,hz⟩:=Option.bind_eq_some_iff.mp h
 obtain⟨v,hv,rv⟩:=r.at hz
 refine⟨v,?_,rv⟩
 rw[← r.len,hj]
 exact hv
theorem br_ix {K:PySem.W.Frag}:Br2 K (rIx K) gIx:=by
 intro H A σ x y v w z Q R q1 q2 g c
 cases y with
 | int i=>
  cases q2.int
  cases x<;>first | exact g.elim | skip
  ·cases q1.str
   obtain⟨few,ch,hc,rfl⟩:=g
   exact .inr (.inr ⟨_,i,ch,rfl,rfl,zbs few,hc,c _ H (Same.refl H) (.str _)⟩)
  ·obtain⟨a,vs,rfl,h1,h2⟩:=q1.tup
   obtain⟨v,hv,rv⟩:=at_rv h2 g
   exact .inr (.inl ⟨a,vs,i,v,rfl,rfl,h1,hv,c _ H (Same.refl H) rv⟩)
  ·obtain⟨a,vs,rfl,h1,h2⟩:=q1.lst R
   obtain⟨v,hv,rv⟩:=at_rv h2 g
   exact .inl ⟨a,vs,i,v,rfl,rfl,SqL.of h1,hv,c _ H (Same.refl H) rv⟩
 | _=>cases x<;>exact g.elim
section
variable {X:Cx}{K:PySem.W.Frag}{a b:Expr}{ua ub:UE}{pos:Pos}
end
end L2
namespace L2
open PySem PySem.Spec PyProof.Rows
namespace HT2
section
variable {prog:Program}{w:World}{A:Around}{E:Value→Shared→Prop}{s:Shared}
theorem getItem_tuple_whole {t sl:Addr}{items:Array Value}{vl vu:Value}{lo hi:Option Int}{Q:Value→Shared→Prop} (ht:IsTup s.heap t items) (hs:s.heap.IsSliceOf sl vl vu .none) (pl:IsPart vl lo) (pu:IsPart vu hi)
  (hw:HT.sIx items.size 0 lo=0∧HT.sIx items.size items.size hi=items.size) (h:Q (.ref t) s):wpAny (model prog w) A (getItem (.ref t) (.ref sl)) Q E s:=by
 obtain⟨os,hos,hcs,hds⟩:=id hs
 have hTs:s.TypeIs (.ref sl) "slice":=⟨os,hos,hcs⟩
 unfold getItem
 try with_reducible refine wpAny_holding ?_
 first | refine wpAny_bind (wpAny_pure ?_) | skip
 refine wpAny_bind (wpAny_sequenceKey ht.typeIs (by decide) ?_)
 refine wpAny_bind (wpAny_callSpecial?_slot (name:=Str.ofString "__getitem__") ht.typeIs PyProof.Rows.slot_tuple_getitem
  (wpAny_call_entry PyProof.Rows.slot_tuple_getitem ht.typeIs entry_tuple_getitem ?_ (args_tuple_getitem _ _)))
 show wpAny _ _ (Builtin.Tuple.tupleItemsOf (.ref t) >>= _) _ _ s
 refine wpAny_bind (tupleItemsOf_ ht ?_)
 refine wpAny_bind (wpAny_typeOf hTs ?_)
 rw[if_pos (by decide)]
 refine wpAny_bind (HT.sliceApplied_gen hs pl pu ?_)
 have hyes:(((HT.sIx items.size 0 lo:Nat):Int)==0&&(1:Int)==1&&(HT.sIx items.size items.size hi-HT.sIx items.size 0 lo)==items.size)=true:=by
  rw[hw.1,hw.2]
  simp
 show wpAny _ _ (if (((HT.sIx items.size 0 lo:Nat):Int)==0&&(1:Int)==1&&(HT.sIx items.size items.size hi-HT.sIx items.size 0 lo)==items.size)=true then _ else _) _ _ s
 rw[if_pos hyes]
 unfold Builtin.Tuple.tupleIsExact
 refine wpAny_bind (wpAny_bind (wpAny_typeOf ht.typeIs (wpAny_pure ?_)))
 rw[if_pos (by decide)]
 refine wpAny_bind (wpAny_rule ?_)
 exact wpAny_pure ⟨_,rfl,wpAny_pure h⟩
end
end HT2
def whole (n:Nat) (lo hi:Option Int):Prop:=HT.sIx n 0 lo=0∧HT.sIx n n hi=n
instance {n:Nat}{lo hi:Option Int}:Decidable (whole n lo hi):=by unfold whole;infer_instance
def rSlTA (K:PySem.W.Frag):V→Option Int→Option Int→Hp→VK→Prop:=fun x lo hi H Q=>∃ a xs,x=.ref a∧SqT K H a xs∧(whole xs.length lo hi→Q (.ref a) H)∧(¬ whole xs.length lo hi→∀ p,H p=none→Q (.ref p) (upd H p (.tup (cutV xs lo hi))))
def cutP (xs:List PV) (lo hi:Option Int):List PV:=(xs.drop (HT.sIx xs.length 0 lo)).take (HT.sIx xs.length xs.length hi-HT.sIx xs.length 0 lo)
theorem cut_rv {K:PySem.W.Frag}{N:Addr→Prop}{H:Hp}{xs:List PV}{vs:List V} (r:RVs K N H xs vs) (lo hi:Option Int):RVs K N H (cutP xs lo hi) (cutV vs lo hi):=by
 unfold cutP cutV
 rw[r.len]
 exact(r.drop _).take _
theorem cut_whole {xs:List PV}{lo hi:Option Int} (h:whole xs.length lo hi):cutP xs lo hi=xs:=by
 unfold cutP
 rw[h.1,h.2]
 simp
section
variable {X:Cx}
theorem sl_tupA:SlR X (rSlTA X.K):=by
 intro pins s σ H x v vl vu lo hi sl Q I rx hs pl pu h
 obtain⟨a,xs,rfl,hx,q1,q2⟩:=h
 by_cases hw:whole xs.length lo hi
 ·cases rx
  obtain⟨its,r,ht,hz⟩:=I.tuple hx
  have hlen:its.toArray.size=xs.length:=by rw[List.size_toArray];exact r.length.symm
  refine⟨"tuple",_,PyProof.Rows.slot_tuple_getitem.lookup,ht.typeIs,?_⟩
  exact HT2.getItem_tuple_whole ht hs pl pu (by rw[hlen];exact hw) ⟨.ref a,H,I,rfl,q1 hw⟩
 ·exact sl_tup pins s σ H _ v vl vu lo hi sl Q I rx hs pl pu ⟨a,xs,rfl,hx,hw,q2 hw⟩
end
abbrev UO:=AS→(Option Int→AS→Prop)→Prop
def uNo:UO:=fun A Q=>Q none A
def uSo (ue:UE):UO:=fun A Q=>ue A fun x A1=>∃ i,x=.int i∧Q (some i) A1
def liftO (K:PySem.W.Frag) (u:UO):TO:=fun σ H Q=>∃ A P,Rep K H σ A∧u A P∧∀ o A1 H1,P o A1→Rep K H1 σ A1→Stp A H A1 H1→Q o H1
theorem PO.mono {X:Cx}{e:Option Expr}{t t':TO} (h:PO X e t) (f:∀ σ H Q,t' σ H Q→t σ H Q):PO X e t':=fun pins s σ H Q I w=>h pins s σ H Q I (f _ _ _ w)
def gSl:PV→Option Int→Option Int→PV→Prop
 | .tup xs,lo,hi,z=>z=.tup (cutP xs lo hi)
 | .lst xs,lo,hi,z=>z=.lst (cutP xs lo hi)
 | .str x,lo,hi,z=>x.length≤100000∧z=.str (Txt.slice x lo hi)
 | _,_,_,_=>False
def gSlF:PV→Option Int→Option Int→PV→Prop
 | .lst xs,lo,hi,z=>z=.lst (cutP xs lo hi)
 | _,_,_,_=>False
def uSl (g:PV→Option Int→Option Int→PV→Prop) (ue:UE) (ul uh:UO):UE:=fun A Q=>ue A fun x A1=>ul A1 fun l A2=>uh A2 fun h A3=>A3.rho=A1.rho∧∃ z,g x l h z∧Q z A3
section
variable {X:Cx}{K:PySem.W.Frag}{e:Expr}{ue:UE}{ul uh:UO}{lo hi:Option Expr}{pos p2:Pos}
theorem o_no:PO X none (liftO K uNo):=po_none.mono fun σ H Q ⟨A,P,R,h,c⟩=>c none A H h R (Stp.refl A H)
theorem o_so (h:PE X e (liftV K ue)):PO X (some e) (liftO K (uSo ue)):=(po_some h).mono fun σ H Q ⟨A,P,R,h,c⟩=>⟨A,_,R,h,fun x A1 v H1 p R1 S1 rv=>by
 obtain⟨i,rfl,p⟩:=p
 cases rv
 exact⟨i,rfl,c _ A1 H1 p R1 S1⟩⟩
theorem e_sl (hK:X.K=K) (he:PE X e (liftQ K ue)) (hl:PO X lo (liftO K ul)) (hh:PO X hi (liftO K uh)):PE X (.Subscript e (.Slice lo hi none p2) pos) (liftV K (uSl gSl ue ul uh)):=by
 subst hK
 refine(zfA (sl_tupA.or (sl_list.or sl_str)) he hl hh).mono fun σ H Q ⟨A,P,R,h,c⟩=>⟨A,_,R,h,fun x A1 v H1 p R1 S1 q1=>⟨A1,_,R1,p,fun l A2 H2 p R2 S2=>⟨A2,_,R2,p,fun u A3 H3 p R3 S3=>?_⟩⟩⟩
 obtain⟨e,z,g,p⟩:=p
 have q3:=q1.step R1 (S2.trans S3) e
 have Sx:=S1.trans (S2.trans S3)
 cases x<;>first | exact g.elim | skip
 ·cases q3.str
  obtain⟨few,rfl⟩:=g
  exact .inr (.inr ⟨_,rfl,zbs few,c _ A3 _ H3 p R3 Sx (.str _)⟩)
 ·cases g
  obtain⟨a,vs,rfl,h1,h2⟩:=q3.tup
  refine .inl ⟨a,vs,rfl,h1,fun hw=>?_,fun _ q hq=>?_⟩
  ·rw[cut_whole (by rw[h2.len];exact hw)] at p
   exact c _ A3 _ H3 p R3 Sx (.tup h1 h2)
  ·have s:=zam hq (.tup (cutV vs l u))
   exact c _ A3 _ _ p (R3.same s) (Sx.trans (Stp.same A3 s)) (.tup (SqT.of zab) ((cut_rv h2 l u).imp (zan s)))
 ·cases g
  obtain⟨a,vs,rfl,h1,h2⟩:=q3.lst R3
  refine .inr (.inl ⟨a,vs,rfl,SqL.of h1,fun q hq=>?_⟩)
  have s:=zam hq (.lst (cutV vs l u))
  exact c _ A3 _ _ p (R3.same s) (Sx.trans (Stp.same A3 s)) (.lst (R3.new hq) zab ((cut_rv h2 l u).imp (zan s)))
theorem zdR (hK:X.K=K) (he:PE X e (liftQ K ue)) (hl:PO X lo (liftO K ul)) (hh:PO X hi (liftO K uh)):PE X (.Subscript e (.Slice lo hi none p2) pos) (liftF K (uSl gSlF ue ul uh)):=by
 subst hK
 refine(zfA sl_list he hl hh).mono fun σ H Q ⟨A,P,R,h,c⟩=>⟨A,_,R,h,fun x A1 v H1 p R1 S1 q1=>⟨A1,_,R1,p,fun l A2 H2 p R2 S2=>⟨A2,_,R2,p,fun u A3 H3 p R3 S3=>?_⟩⟩⟩
 obtain⟨e,z,g,p⟩:=p
 have q3:=q1.step R1 (S2.trans S3) e
 cases x<;>first | exact g.elim | skip
 cases g
 obtain⟨a,vs,rfl,h1,h2⟩:=q3.lst R3
 exact⟨a,vs,rfl,SqL.of h1,fun q hq=>c _ A3 _ H3 _ p R3 (S1.trans (S2.trans S3)) ⟨q,.lst _,rfl,rfl,hq,zam hq _,_,zab,cut_rv h2 l u⟩⟩
end
abbrev G1:=PV→PV→Prop
def Br1 (K:PySem.W.Frag) (r:List V→Hp→VK→Prop) (g:G1):Prop:=∀ (H:Hp) (A:AS) (σ:St) (x:PV) (v:V) (z:PV) (Q:VK),Rep K H σ A→RVq K A H x v→g x z→(∀ v' H',Same H H'→RV K (AN A) H' z v'→Q v' H')→r [v] H Q
def Br1F (K:PySem.W.Frag) (r:List V→Hp→VK→Prop) (g:G1):Prop:=∀ (H:Hp) (A:AS) (σ:St) (x:PV) (v:V) (z:PV) (Q:VK),Rep K H σ A→RVq K A H x v→g x z→(∀ v' H',FrV K (AN A) H H' z v'→Q v' H')→r [v] H Q
def u1 (g:G1) (ue:UE):UE:=fun A Q=>ue A fun x A1=>∃ z,g x z∧Q z A1
section
variable {X:Cx}{K:PySem.W.Frag}{e:Expr}{ue:UE}{x:Str}{p pos:Pos}{id T:String}{r:List V→Hp→VK→Prop}{g:G1}
theorem c1 (br:Br1 K r g):∀ σ H Q,liftV K (u1 g ue) σ H Q→tCB r (tCons (liftQ K ue) tNil) σ H Q:=fun σ H Q ⟨A,P,R,h,c⟩=>⟨A,_,R,h,fun x A1 v H1 p R1 S1 q1=>by
 obtain⟨z,g,p⟩:=p
 exact br H1 A1 σ x v z Q R1 q1 g fun v' H' s rv=>c z A1 v' H' p (R1.same s) (S1.trans (Stp.same A1 s)) rv⟩
theorem c1F (br:Br1F K r g):∀ σ H Q,liftF K (u1 g ue) σ H Q→tCB r (tCons (liftQ K ue) tNil) σ H Q:=fun σ H Q ⟨A,P,R,h,c⟩=>⟨A,_,R,h,fun x A1 v H1 p R1 S1 q1=>by
 obtain⟨z,g,p⟩:=p
 exact br H1 A1 σ x v z Q R1 q1 g fun v' H' f=>c z A1 v' H1 H' p R1 S1 f⟩
theorem e_b1 (hc:CallR X (.builtin id) r) (br:Br1 K r g) (hv:bootBuiltins x=some (.builtin id)) (hm:X.mg x=none) (he:PE X e (liftQ K ue)) (hg:Gl X x:=by rfl) (hn:x≠"__name__":=by decide) (hd:(x==("__debug__":Str))=false:=by decide) (hs:starEach [e] X.env=[(false,eval e X.env)]:=by rfl) :
  PE X (.Call (.Name x p) [e] [] pos) (liftV K (u1 g ue)):=(zaw hc hg hm hv (zad he pa_nil hs) hn hd hs).mono (c1 br)
theorem e_t1 (hc:CallR X (.type T) r) (br:Br1 K r g) (hv:bootBuiltins x=some (.type T)) (hm:X.mg x=none) (he:PE X e (liftQ K ue)) (hg:Gl X x:=by rfl) (hn:x≠"__name__":=by decide) (hd:(x==("__debug__":Str))=false:=by decide) (hs:starEach [e] X.env=[(false,eval e X.env)]:=by rfl) :
  PE X (.Call (.Name x p) [e] [] pos) (liftV K (u1 g ue)):=(zem hc hg hm hv (zad he pa_nil hs) hn hd hs).mono (c1 br)
theorem e_t1F (hc:CallR X (.type T) r) (br:Br1F K r g) (hv:bootBuiltins x=some (.type T)) (hm:X.mg x=none) (he:PE X e (liftQ K ue)) (hg:Gl X x:=by rfl) (hn:x≠"__name__":=by decide) (hd:(x==("__debug__":Str))=false:=by decide) (hs:starEach [e] X.env=[(false,eval e X.env)]:=by rfl) :
  PE X (.Call (.Name x p) [e] [] pos) (liftF K (u1 g ue)):=(zem hc hg hm hv (zad he pa_nil hs) hn hd hs).mono (c1F br)
end
end L2
namespace L2
open PySem PySem.Spec PyProof.Rows
section
variable {X:Cx}{K:PySem.W.Frag}{e:Expr}{ue:UE}{p pos:Pos}{k:Nat}
def gLen:G1
 | .tup xs,z=>z=.int xs.length
 | .lst xs,z=>z=.int xs.length
 | .str x,z=>x.length≤100000∧z=.int x.length
 | _,_=>False
theorem br_len:Br1 K (fun xs H Q=>∃ x n,xs=[x]∧LenV K x H n∧Q (.int n) H) gLen:=by
 intro H A σ x v z Q R q1 g c
 cases x<;>first | exact g.elim | skip
 ·obtain⟨few,rfl⟩:=g
  cases q1.str
  exact⟨_,_,rfl,⟨zbs few,rfl⟩,c _ H (Same.refl H) (.int _)⟩
 ·cases g
  obtain⟨a,vs,rfl,h1,h2⟩:=q1.tup
  refine⟨_,_,rfl,.inr ⟨vs,h1,rfl⟩,?_⟩
  rw[← h2.len]
  exact c _ H (Same.refl H) (.int _)
 ·cases g
  obtain⟨a,vs,rfl,h1,h2⟩:=q1.lst R
  refine⟨_,_,rfl,.inl ⟨vs,SqL.of h1,rfl⟩,?_⟩
  rw[← h2.len]
  exact c _ H (Same.refl H) (.int _)
theorem zbd (hK:X.K=K) (hm:X.mg "len"=none) (he:PE X e (liftQ K ue)) (hg:Gl X "len":=by rfl) (hs:starEach [e] X.env=[(false,eval e X.env)]:=by rfl):PE X (.Call (.Name "len" p) [e] [] pos) (liftV K (u1 gLen ue)):=by
 subst hK
 exact e_b1 call_len br_len PySem.boot_len hm he hg (hs:=hs)
inductive Ty where
 | int | str | bool | tuple | list | dict
def Ty.n:Ty→String
 | .int=>"int"
 | .str=>"str"
 | .bool=>"bool"
 | .tuple=>"tuple"
 | .list=>"list"
 | .dict=>"dict"
def isTy:Ty→PV→Option Bool
 | _,.raw _=>none
 | .int,.int _=>some true
 | .int,.bl _=>some true
 | .str,.str _=>some true
 | .bool,.bl _=>some true
 | .tuple,.tup _=>some true
 | .list,.lst _=>some true
 | .dict,.dic _=>some true
 | _,_=>some false
theorem kit_all {K:PySem.W.Frag}:∀ (t:Ty) (T:String),T∈["NoneType","bool","int","str","list","tuple","dict"]→PySem.W.kitOne K (.type T) (.type t.n)=some (T==t.n||(t.n=="int"&&T=="bool")):=by
 intro t T h
 simp only[List.mem_cons,List.not_mem_nil,or_false] at h
 cases t<;>(rcases h with rfl | rfl | rfl | rfl | rfl | rfl | rfl)<;>with_unfolding_all rfl
theorem tuple_inst {pins:List (Addr×Obj)}{σ:St}{H:Hp}{s:Shared}{A:Around}{E:Value→Shared→Prop}{Q:Value→Shared→Prop}{c:Value}{b:Bool}{a:Addr}{vs:List V} (I:Inv X pins σ H s) (h1:SqT X.K H a vs) (e:PySem.W.kitOne X.K (.type "tuple") c=some b) (h:∀ tk,Q (.bool b) { s with toks:=tk }) :
  wpAny (model X.prog X.w) A (call (.builtin "isinstance") [.ref a,c]) Q E s:=by
 obtain⟨its,_,⟨o,g1,g2,_⟩,_⟩:=I.tuple h1
 exact PySem.W.kia_one PySem.W.kitx_tuple I.kIn ⟨o,g1,g2⟩ e (fun z=>nomatch z) h
theorem dict_inst {pins:List (Addr×Obj)}{σ:St}{H:Hp}{s:Shared}{A:Around}{E:Value→Shared→Prop}{Q:Value→Shared→Prop}{c:Value}{b:Bool}{a:Addr}{kvs:List (Key×V)} (I:Inv X pins σ H s) (h1:Rd H a (.dK kvs)) (e:PySem.W.kitOne X.K (.type "dict") c=some b) (h:∀ tk,Q (.bool b) { s with toks:=tk }) :
  wpAny (model X.prog X.w) A (call (.builtin "isinstance") [.ref a,c]) Q E s:=by
 obtain⟨_,_,vs,_,ob,es,ep,g1,g2,_⟩:=h1.ok I.hok
 exact PySem.W.kia_one PySem.W.kitx_dict I.kIn ⟨ob,g1,g2.1⟩ e (fun z=>nomatch z) h
def rInst (K:PySem.W.Frag):List V→Hp→VK→Prop:=fun xs H Q=>∃ (x:V) (t:Value) (n:Ty) (b:Bool),xs=[x,.ty n.n]∧(TyOf K H x t∨(∃ a vs,x=.ref a∧t=.type "tuple"∧SqT K H a vs)∨∃ a kvs,x=.ref a∧t=.type "dict"∧Rd H a (.dK kvs))∧PySem.W.kitOne K t (.type n.n)=some b∧Q (.bl b) H
theorem call_inst:CallR X (.builtin "isinstance") (rInst X.K):=by
 intro pins s σ H xs us Q I r h
 obtain⟨x,t,n,b,rfl,ty,e,q⟩:=h
 obtain⟨u,v,rfl,ru,rv⟩:=vals2 r
 cases (show v=Value.type n.n from rv)
 rcases ty with ty | ⟨a,vs,rfl,rfl,h1⟩ | ⟨a,vs,rfl,rfl,h1⟩
 ·exact isinst_ok I ru ty e fun tk=>⟨.bl b,H,I.tok tk,rfl,q⟩
 ·cases ru
  exact tuple_inst I h1 e fun tk=>⟨.bl b,H,I.tok tk,rfl,q⟩
 ·cases ru
  exact dict_inst I h1 e fun tk=>⟨.bl b,H,I.tok tk,rfl,q⟩
def uInst (t:Ty) (ue:UE):UE:=fun A Q=>ue A fun x A1=>∃ b,isTy t x=some b∧Q (.bl b) A1
theorem zbb (t:Ty){T:Str}{pt:Pos} (hK:X.K=K) (hm:X.mg "isinstance"=none) (hT:X.mg T=none) (hv:bootBuiltins T=some (.type t.n)) (he:PE X e (liftQ K ue)) (hg:Gl X "isinstance":=by rfl) (hgT:Gl X T:=by rfl) (hn:T≠"__name__":=by decide) (hd:(T==("__debug__":Str))=false:=by decide)
  (hs:starEach [e,.Name T pt] X.env=(false,eval e X.env)::starEach [.Name T pt] X.env:=by rfl) (hs2:starEach [.Name T pt] X.env=[(false,eval (.Name T pt) X.env)]:=by rfl) (hpl:(backTo pos (starEach [.Name T pt] X.env)).any (·.1)=false:=by rfl) :
  PE X (.Call (.Name "isinstance" p) [e,.Name T pt] [] pos) (liftV K (uInst t ue)):=by
 subst hK
 refine(zaw call_inst hg hm PyProof.Rows.boot_isinstance (zad he (zad (pe_bltn (v:=.ty t.n) hgT hT hv rfl hn hd) pa_nil hs2) hs) (by decide) (by decide) hs hpl).mono fun σ H Q ⟨A,P,R,h,c⟩=>⟨A,_,R,h,fun x A1 v H1 p R1 S1 q1=>?_⟩
 obtain⟨b,eb,p⟩:=p
 have fin:=c _ A1 _ H1 p R1 S1 (.bl b)
 have one:∀ T,T∈["NoneType","bool","int","str","list","tuple","dict"]→(T==t.n||(t.n=="int"&&T=="bool"))=b→PySem.W.kitOne X.K (.type T) (.type t.n)=some b:=fun T h e=>by rw[kit_all t T h,e]
 cases x with
 | raw w=>cases t<;>cases eb
 | non=>cases q1.non;exact⟨_,_,t,b,rfl,.inl .non,one _ (by simp) (by cases t<;>cases eb<;>rfl),fin⟩
 | bl y=>cases q1.bl;exact⟨_,_,t,b,rfl,.inl (.bl _),one _ (by simp) (by cases t<;>cases eb<;>rfl),fin⟩
 | int y=>cases q1.int;exact⟨_,_,t,b,rfl,.inl (.int _),one _ (by simp) (by cases t<;>cases eb<;>rfl),fin⟩
 | str y=>cases q1.str;exact⟨_,_,t,b,rfl,.inl (.str _),one _ (by simp) (by cases t<;>cases eb<;>rfl),fin⟩
 | tup y=>obtain⟨a,vs,rfl,h1,_⟩:=q1.tup;exact⟨_,_,t,b,rfl,.inr (.inl ⟨a,vs,rfl,rfl,h1⟩),one _ (by simp) (by cases t<;>cases eb<;>rfl),fin⟩
 | lst y=>obtain⟨a,vs,rfl,h1,_⟩:=q1.lst R1;exact⟨_,_,t,b,rfl,.inl (.lst h1),one _ (by simp) (by cases t<;>cases eb<;>rfl),fin⟩
 | dic y=>obtain⟨a,vs,rfl,h1,_⟩:=q1.dic R1;exact⟨_,_,t,b,rfl,.inr (.inr ⟨a,vs,rfl,rfl,h1⟩),one _ (by simp) (by cases t<;>cases eb<;>rfl),fin⟩
def gTuple:G1
 | .tup xs,z=>z=.tup xs
 | .lst xs,z=>z=.tup xs
 | _,_=>False
def gList:G1
 | .tup xs,z=>z=.lst xs
 | .lst xs,z=>z=.lst xs
 | _,_=>False
theorem br_tuple:Br1 K (fun xs H Q=>∃ p ys,xs=[.ref p]∧((SqL K H p ys∧∀ l,H l=none→Q (.ref l) (upd H l (.tup ys)))∨(SqT K H p ys∧Q (.ref p) H))) gTuple:=by
 intro H A σ x v z Q R q1 g c
 cases x<;>first | exact g.elim | skip
 ·cases g
  obtain⟨a,vs,rfl,h1,h2⟩:=q1.tup
  exact⟨a,vs,rfl,.inr ⟨h1,c _ H (Same.refl H) (.tup h1 h2)⟩⟩
 ·cases g
  obtain⟨a,vs,rfl,h1,h2⟩:=q1.lst R
  refine⟨a,vs,rfl,.inl ⟨SqL.of h1,fun l hl=>?_⟩⟩
  have s:=zam hl (.tup vs)
  exact c _ _ s (.tup (SqT.of zab) (h2.imp (zan s)))
theorem br_list:Br1F K (fun xs H Q=>∃ p ys,xs=[.ref p]∧(SqL K H p ys∨SqT K H p ys)∧∀ l,H l=none→Q (.ref l) (upd H l (.lst ys))) gList:=by
 intro H A σ x v z Q R q1 g c
 cases x<;>first | exact g.elim | skip
 ·cases g
  obtain⟨a,vs,rfl,h1,h2⟩:=q1.tup
  exact⟨a,vs,rfl,.inr h1,fun l hl=>c _ _ ⟨l,.lst _,rfl,rfl,hl,zam hl _,_,zab,h2⟩⟩
 ·cases g
  obtain⟨a,vs,rfl,h1,h2⟩:=q1.lst R
  exact⟨a,vs,rfl,.inl (SqL.of h1),fun l hl=>c _ _ ⟨l,.lst _,rfl,rfl,hl,zam hl _,_,zab,h2⟩⟩
theorem zbZ (hK:X.K=K) (hm:X.mg "tuple"=none) (he:PE X e (liftQ K ue)) (hg:Gl X "tuple":=by rfl) (hs:starEach [e] X.env=[(false,eval e X.env)]:=by rfl):PE X (.Call (.Name "tuple" p) [e] [] pos) (liftV K (u1 gTuple ue)):=by
 subst hK
 exact e_t1 zdX br_tuple PyProof.Rows.boot_tuple hm he hg (hs:=hs)
theorem e_list (hK:X.K=K) (hm:X.mg "list"=none) (he:PE X e (liftQ K ue)) (hg:Gl X "list":=by rfl) (hs:starEach [e] X.env=[(false,eval e X.env)]:=by rfl):PE X (.Call (.Name "list" p) [e] [] pos) (liftF K (u1 gList ue)):=by
 subst hK
 exact e_t1F zeG br_list PyProof.Rows.boot_list hm he hg (hs:=hs)
def bls:List PV→Option (List Bool)
 | []=>some []
 | .bl b::xs=>(bls xs).map (b::·)
 | _=>none
def gAll:G1
 | .lst xs,z=>∃ bs,bls xs=some bs∧z=.bl (bs.all id)
 | _,_=>False
def gAny:G1
 | .lst xs,z=>∃ bs,bls xs=some bs∧z=.bl (bs.any id)
 | _,_=>False
def gInt:G1
 | .int i,z=>z=.int i
 | .bl b,z=>z=.int (if b then 1 else 0)
 | _,_=>False
theorem br_int:Br1 K (fun xs H Q=>(∃ i,xs=[.int i]∧Q (.int i) H)∨∃ k,xs=[.bl k]∧Q (.int (if k then 1 else 0)) H) gInt:=by
 intro H A σ x v z Q R q1 g c
 cases x<;>first | exact g.elim | skip
 ·cases g;cases q1.bl;exact .inr ⟨_,rfl,c _ H (Same.refl H) (.int _)⟩
 ·cases g;cases q1.int;exact .inl ⟨_,rfl,c _ H (Same.refl H) (.int _)⟩
theorem e_int (hm:X.mg "int"=none) (he:PE X e (liftQ K ue)) (hg:Gl X "int":=by rfl) (hs:starEach [e] X.env=[(false,eval e X.env)]:=by rfl):PE X (.Call (.Name "int" p) [e] [] pos) (liftV K (u1 gInt ue)):=e_t1 call_int1 br_int PyProof.Rows.boot_int hm he hg (hs:=hs)
def uNeg (ue:UE):UE:=fun A Q=>ue A fun x A1=>∃ i,x=.int i∧Q (.int (-i)) A1
theorem e_neg (he:PE X e (liftV K ue)):PE X (.UnaryOp .USub e pos) (liftV K (uNeg ue)):=(pe_un un_neg he).mono fun σ H Q ⟨A,P,R,h,c⟩=>⟨A,_,R,h,fun x A1 v H1 p R1 S1 rv=>by
 obtain⟨i,rfl,p⟩:=p
 cases rv
 exact⟨i,rfl,c _ A1 _ H1 p R1 S1 (.int _)⟩⟩
end
end L2
namespace HR
open PySem PyProof.Rows PySem.SeqAt
section
open PySem.AutoSeq1 (wpAny_loadPart')
open PySem.MeetsSeq PySem.MeetsSeq2 PySem.MeetsSeq3
theorem zds (l:Addr) (items:Array Value) (n:Nat) (x:Value) (e:Value→Bool) (j:Nat) (hj:j<items.size) (hit:e items[j]=true) (k:Nat) (hs1:items.size≤sizeLine) :
  ∀ i:Nat,j-i=k→i≤j→(∀ m (hm:m<items.size),i≤m→m<j→e items[m]=false)→Meets (Builtin.«list.remove.loop» ⟨[.ref l,x,rawInt i],[]⟩)
   (fun A R s=>(∀ y,y∈items→EqAt A.in1 s y x (e y))∧s.heap.get? l=some { cls:=.type "list",dict:=none,data:=.seq items n,slots:=#[] }∧R (.ok (.ret .none)) { s with heap:=s.heap.update l (Obj.mapSeq fun xs=>xs.eraseIdxIfInBounds j) }):=by
 induction k with
 | zero=>
  intro i hk hij hno prog w A R s h
  obtain⟨hp,g,d,tk,os⟩:=s;obtain⟨he,hl,h⟩:=h
  have hij':i=j:=by omega
  subst hij'
  wp_walk using wpAny_loadPart' hl
  have hi:items[((i:Nat):Int).toNat]?=some items[i]:=by simp [hj]
  rw[hi]
  refine wpAny_bind (he _ (Array.getElem_mem hj) prog w _ _ ?_)
  rw[hit]
  have hz':(items.eraseIdxIfInBounds i).size≤sizeLine+1:=Nat.le_trans (size_erased items _) (Nat.le_succ_of_le hs1)
  wp_walk using (wpAny_updateSeq hl rfl (hz:=hs1) (_hz':=hz')),wpAny_loadPart' hl
  simpa using h
 | succ k ih=>
  intro i hk hij hno prog w A R s h
  obtain⟨hp,g,d,tk,os⟩:=s;obtain⟨he,hl,h⟩:=h
  have hlt:i<items.size:=by omega
  wp_walk using wpAny_loadPart' hl
  have hi:items[((i:Nat):Int).toNat]?=some items[i]:=by simp [hlt]
  have hc:((i:Int)+1)=((i+1:Nat):Int):=by push_cast;rfl
  rw[hi]
  refine wpAny_bind (he _ (Array.getElem_mem hlt) prog w _ _ ?_)
  rw[hno i hlt (Nat.le_refl _) (by omega)]
  wp_walk
  rw[hc]
  exact⟨plainId_quiet plain_remove_loop _,codeAny_builtin entry_remove_loop (by
   rw[Around.under_plainId plain_remove_loop _]
   exact ih (i+1) (by omega) (by omega) (fun m hm h1 h2=>hno m hm (by omega) h2) prog w A R _ ⟨he,hl,h⟩)⟩
theorem list_removeAt (l:Addr) (items:Array Value) (n:Nat) (x:Value) (e:Value→Bool) (j:Nat) (hj:j<items.size)
  (hit:e items[j]=true) (hno:∀ m (hm:m<items.size),m<j→e items[m]=false) (hs1:items.size≤sizeLine) :
  Meets (Builtin.«list.remove» ⟨[.ref l,x],[]⟩)
   (fun A R s=>(∀ y,y∈items→EqAt A.in1 s y x (e y))∧s.heap.get? l=some { cls:=.type "list",dict:=none,data:=.seq items n,slots:=#[] }∧R (.ok (.ret .none)) { s with heap:=s.heap.update l (Obj.mapSeq fun xs=>xs.eraseIdxIfInBounds j) }):=by
 intro prog w A R s h
 obtain⟨hp,g,d,tk,os⟩:=s;obtain⟨he,hl,h⟩:=h
 wp_walk using wpAny_loadPart' hl
 exact⟨plainId_quiet plain_remove_loop _,codeAny_builtin entry_remove_loop (by
  rw[Around.under_plainId plain_remove_loop _]
  exact zds l items n x e j hj hit _ hs1 0 rfl (Nat.zero_le _) (fun m hm _ h2=>hno m hm h2) prog w A R _ ⟨he,hl,h⟩)⟩
end
end HR
namespace L2
open PySem PySem.Spec PyProof.Rows
section
variable {X:Cx}
def rRemove (K:PySem.W.Frag):V→List V→Hp→VK→Prop:=fun x vs H Q=>∃ l xs y N ps py n j,x=.ref l∧vs=[y]∧H l=some (.lst xs)∧n≤80∧Dp n py∧(∀ p∈ps,Dp n p)∧RV K N H py y∧RVs K N H ps xs ∧
 (∃ p,ps[j]?=some p∧peq p py=true)∧(∀ m p,m<j→ps[m]?=some p→peq p py=false)∧Q .non (upd H l (.lst (xs.eraseIdx j)))
theorem mt_remove (hu:X.A.units+100<cLine):MtM X "list.remove" (rRemove X.K):=by
 intro pins s σ H x vs v us Q I rx rv h
 obtain⟨l,xs,y,N,ps,py,n,j,rfl,rfl,hH,hn,dy,dp,ry,rs,⟨p,hp,hit⟩,hno,q⟩:=h
 cases rx
 obtain⟨u,rfl,ru⟩:=rv.one
 obtain⟨z,its,k,r,hl,e⟩:=I.lstM hH
 have ll:=r.length
 have lp:=rs.len
 have hjp:j<ps.length:=(List.getElem?_eq_some_iff.mp hp).1
 have hj:j<its.toArray.size:=by rw[List.size_toArray];omega
 have each:∀ m (hm:m<its.toArray.size) p,ps[m]?=some p→eIn X.K N H n py its.toArray[m]=peq p py:=by
  intro m hm p hp
  obtain⟨w,hw,rw'⟩:=rs.at hp
  obtain⟨u',hu',ru'⟩:=r.get hw
  have e1:its.toArray[m]=u':=by
   have hm':m<its.length:=by simpa using hm
   rw[List.getElem?_eq_getElem hm'] at hu'
   simpa using Option.some.inj hu'
  rw[e1]
  exact eIn_of I dy (dp p (List.mem_of_getElem? hp)) rw' ru'
 refine call_meets F.slot_list_remove ⟨_,e,rfl⟩ F.entry_list_remove (F.args_list_remove_2 _ _) (HR.list_removeAt l its.toArray k u (eIn X.K N H n py) j hj (by rw[each j hj p hp];exact hit) (fun m hm hlt=>?_) (by rw[List.size_toArray];omega)) ⟨fun w hw=>?_,e,?_⟩
 ·have hmp:m<ps.length:=by rw[List.size_toArray] at hm;omega
  rw[each m hm ps[m] (List.getElem?_eq_getElem hmp)]
  exact hno m _ hlt (List.getElem?_eq_getElem hmp)
 ·exact zbS I (by rw[zav];omega) dy ry ru rs r dp w (by simpa using hw)
 ·refine⟨.non,_,I.lset (its':=its.eraseIdx j) hH e ?_ ?_ ?_,rfl,q⟩
  ·have hj':j<its.length:=by simpa using hj
   simp [Array.eraseIdxIfInBounds,hj']
  ·exact r.eraseIdx j
  ·have:=List.length_eraseIdx_le xs j
   omega
end
theorem RVs.erase {K:PySem.W.Frag}{N:Addr→Prop}{H:Hp}{xs:List PV}{vs:List V} (h:RVs K N H xs vs) (j:Nat):RVs K N H (xs.eraseIdx j) (vs.eraseIdx j):=by
 induction vs generalizing xs j with
 | nil=>cases h;exact .nil
 | cons u vs ih=>
  cases h with
  | cons h1 h2=>
   cases j with
   | zero=>exact h2
   | succ j=>exact .cons h1 (ih h2 j)
def uApp (i:Nat) (ue:UE):UE:=fun A Q=>match A.rho[i]? with
 | some (some (.own a (.lst _)))=>ue A fun r A1=>∃ xs,A1.rho[i]?=some (some (.own a (.lst xs)))∧xs.length≤1000000∧Q .non (put A1 i (.own a (.lst (xs++[r]))))
 | _=>False
def uRevM (i:Nat):UE:=fun A Q=>match A.rho[i]? with
 | some (some (.own a (.lst xs)))=>Q .non (put A i (.own a (.lst xs.reverse)))
 | _=>False
def uExt (i:Nat) (ue:UE):UE:=fun A Q=>match A.rho[i]? with
 | some (some (.own a (.lst _)))=>ue A fun r A1=>∃ xs ys,A1.rho[i]?=some (some (.own a (.lst xs)))∧(r=.lst ys∨r=.tup ys)∧xs.length+ys.length≤1000000∧Q .non (put A1 i (.own a (.lst (xs++ys))))
 | _=>False
def uRemove (i:Nat) (ue:UE):UE:=fun A Q=>match A.rho[i]? with
 | some (some (.own a (.lst _)))=>ue A fun r A1=>∃ xs j,A1.rho[i]?=some (some (.own a (.lst xs)))∧(∃ n,n≤80∧Dp n r∧∀ x∈xs,Dp n x)∧(∃ p,xs[j]?=some p∧peq p r=true)∧(∀ (m:Nat) p,m<j→xs[m]?=some p→peq p r=false)∧Q .non (put A1 i (.own a (.lst (xs.eraseIdx j))))
 | _=>False
theorem mt_extendS {X:Cx}:MtM X "list.extend" (fun x vs H Q=>∃ l b xs zs,x=.ref l∧vs=[.ref b]∧H l=some (.lst xs)∧SqT X.K H b zs∧xs.length+zs.length≤sizeLine∧Q .non (upd H l (.lst (xs++zs)))):=by
 intro pins s σ H x vs v us Q I rx rv h
 obtain⟨l,b,xs,zs,rfl,rfl,hH,hB,hz,q⟩:=h
 cases rx
 obtain⟨u,rfl,ru⟩:=rv.one
 cases ru
 obtain⟨z,its,n,r,hl,e⟩:=I.lstM hH
 obtain⟨its2,r2,e2,z2⟩:=I.tuple hB
 have hl2:=r2.length
 obtain⟨ob,e2,c2,n2,d2⟩:=e2
 have hsz:its.toArray.size+its2.toArray.size≤sizeLine:=by rw[List.size_toArray,List.size_toArray];omega
 have hlong:¬ (!its.toArray.isEmpty&&Builtin.List.listTooLong (its.toArray.size+its2.toArray.size))=true:=by
  rw[notLongL hsz,Bool.and_false]
  exact Bool.false_ne_true
 refine wpAny_call_entry PySem.F.slot_list_extend ⟨_,e,rfl⟩ PySem.F.entry_list_extend ?_ (PySem.F.args_list_extend_2 _ _)
 show wpAny _ _ (Builtin.List.listExtendWith (.ref l) (.ref b) .none) _ _ s
 unfold Builtin.List.listExtendWith
 refine wpAny_bind (wpAny_typeOf (T:="tuple") ⟨ob,e2,c2⟩ ?_)
 have h3:(Value.type "tuple"==Value.type "tuple")=true:=by decide
 simp only[h3,Bool.or_true,if_true]
 unfold Builtin.List.listItems
 refine wpAny_bind (wpAny_bind (wpAny_seqItems e2 d2 (wpAny_pure ?_)))
 refine wpAny_bind (wpAny_bind (wpAny_seqItems e rfl (wpAny_pure ?_)))
 rw[if_neg hlong]
 show wpAny _ _ (updateSeq l (·++its2.toArray) >>= _) _ _ s
 refine wpAny_bind (wpAny_updateSeq e rfl ?_ (by rw[List.size_toArray];omega) (by rw[Array.size_append];omega))
 refine wpAny_pure ⟨_,rfl,.non,_,I.lset (its':=its++its2) (t':=s.toks) hH e (by simp) (r.append r2) ?_,rfl,q⟩
 rw[List.length_append]
 omega
theorem MtM.or {X:Cx}{id:String}{r r':V→List V→Hp→VK→Prop} (h:MtM X id r) (h':MtM X id r'):MtM X id (fun x xs H Q=>r x xs H Q∨r' x xs H Q):=fun pins s σ H x xs v us Q I rx rs q=>q.elim (h pins s σ H x xs v us Q I rx rs) (h' pins s σ H x xs v us Q I rx rs)
theorem zer {n:Nat} (h:n≤1000000):n≤sizeLine:=Nat.le_trans h (by decide)
section
variable {X:Cx}{K:PySem.W.Frag}{e:Expr}{ue:UE}{apos cpos npos:Pos}{k:Nat}
theorem e_app (hK:X.K=K) (i:Nat){x:Str} (he:PE X e (liftV K ue)) (hN:X.N[i]?=some x:=by rfl) (hv:Vis X.env.scope x:=by first | exact Or.inl rfl | exact Or.inr (Or.inl rfl) | exact Or.inr (Or.inr rfl)) (hd:(x==("__debug__":Str))=false:=by decide) (hcd:(x==("__classdict__":Str))=false:=by decide)
  (hbase:attributeBase (.Name x npos) "append" X.env (eval (.Name x npos) X.env)=eval (.Name x npos) X.env:=by rfl)
  (hfew:((backTo cpos (starEach [e] X.env)).all (fun x=>!x.1)&&(backToKw cpos (keywordEach [] X.env)).all (fun x=>x.1.isSome)&&decide ([e].length+([]:List Keyword).length+(if ([]:List Keyword).isEmpty then 0 else 1)<30))=true:=by rfl)
  (hline:(apos.endLine==cpos.line)=true:=by rfl) (hs:starEach [e] X.env=[(false,eval e X.env)]:=by rfl):PE X (.Call (.Attribute (.Name x npos) "append" apos) [e] [] cpos) (liftV K (uApp i ue)):=by
 subst hK
 refine(pe_bm PySem.F.plainAttrs_list PySem.F.slot_list_append PySem.F.type_list_append zep (zat hN hv hd hcd) (zad he pa_nil hs) hbase hfew hline hs rfl).mono fun σ H Q ⟨A,P,R,h,c⟩=>?_
 unfold uApp at h
 split at h
 ·rename_i a ys hx
  obtain⟨v,ev,rfl,nb,vs,h1,h2⟩:=R.sl i _ hx
  refine⟨_,ev,.inl ⟨rfl,_,SqL.of h1⟩,A,_,R,h,fun r A1 w H1 p R1 S1 rw'=>?_⟩
  obtain⟨xs,hA,few,p⟩:=p
  obtain⟨_,_,_,_,us,g1,g2⟩:=R1.sl i _ hA
  have:=g2.len
  obtain⟨R2,S2⟩:=R1.turn hA (g2.app (.cons rw' .nil))
  exact⟨a,us,w,rfl,rfl,g1,Nat.lt_of_le_of_lt (by omega:us.length≤1000000) (by decide),c _ _ _ _ p R2 (S1.trans S2) .non⟩
 ·exact h.elim
theorem e_revM (hK:X.K=K) (i:Nat){x:Str} (hN:X.N[i]?=some x:=by rfl) (hv:Vis X.env.scope x:=by first | exact Or.inl rfl | exact Or.inr (Or.inl rfl) | exact Or.inr (Or.inr rfl)) (hd:(x==("__debug__":Str))=false:=by decide) (hcd:(x==("__classdict__":Str))=false:=by decide)
  (hbase:attributeBase (.Name x npos) "reverse" X.env (eval (.Name x npos) X.env)=eval (.Name x npos) X.env:=by rfl) (hline:(apos.endLine==cpos.line)=true:=by rfl):PE X (.Call (.Attribute (.Name x npos) "reverse" apos) [] [] cpos) (liftV K (uRevM i)):=by
 subst hK
 refine(pe_bm0 PySem.F.plainAttrs_list PySem.F.slot_list_reverse PySem.F.type_list_reverse mt_reverse (zat hN hv hd hcd) hbase hline).mono fun σ H Q ⟨A,P,R,h,c⟩=>?_
 unfold uRevM at h
 split at h
 ·rename_i a xs hx
  obtain⟨v,ev,rfl,nb,vs,h1,h2⟩:=R.sl i _ hx
  obtain⟨R2,S2⟩:=R.turn hx h2.rev
  exact⟨_,ev,.inl ⟨rfl,_,SqL.of h1⟩,a,_,rfl,rfl,h1,c _ _ _ _ h R2 S2 .non⟩
 ·exact h.elim
theorem e_ext (hK:X.K=K) (i:Nat){x:Str} (he:PE X e (liftQ K ue)) (hN:X.N[i]?=some x:=by rfl) (hv:Vis X.env.scope x:=by first | exact Or.inl rfl | exact Or.inr (Or.inl rfl) | exact Or.inr (Or.inr rfl)) (hd:(x==("__debug__":Str))=false:=by decide) (hcd:(x==("__classdict__":Str))=false:=by decide)
  (hbase:attributeBase (.Name x npos) "extend" X.env (eval (.Name x npos) X.env)=eval (.Name x npos) X.env:=by rfl)
  (hfew:((backTo cpos (starEach [e] X.env)).all (fun x=>!x.1)&&(backToKw cpos (keywordEach [] X.env)).all (fun x=>x.1.isSome)&&decide ([e].length+([]:List Keyword).length+(if ([]:List Keyword).isEmpty then 0 else 1)<30))=true:=by rfl)
  (hline:(apos.endLine==cpos.line)=true:=by rfl) (hs:starEach [e] X.env=[(false,eval e X.env)]:=by rfl):PE X (.Call (.Attribute (.Name x npos) "extend" apos) [e] [] cpos) (liftV K (uExt i ue)):=by
 subst hK
 refine(pe_bm PySem.F.plainAttrs_list PySem.F.slot_list_extend PySem.F.type_list_extend (mt_extend.or mt_extendS) (zat hN hv hd hcd) (zad he pa_nil hs) hbase hfew hline hs rfl).mono fun σ H Q ⟨A,P,R,h,c⟩=>?_
 unfold uExt at h
 split at h
 ·rename_i a ys hx
  obtain⟨v,ev,rfl,nb,vs,h1,h2⟩:=R.sl i _ hx
  refine⟨_,ev,.inl ⟨rfl,_,SqL.of h1⟩,A,_,R,h,fun r A1 w H1 p R1 S1 q1=>?_⟩
  obtain⟨xs,ys,hA,hr,few,p⟩:=p
  obtain⟨_,_,_,_,us,g1,g2⟩:=R1.sl i _ hA
  have l1:=g2.len
  rcases hr with rfl | rfl
  ·obtain⟨b,ws,rfl,f1,f2⟩:=q1.lst R1
   have l2:=f2.len
   obtain⟨R2,S2⟩:=R1.turn hA (g2.app f2)
   exact .inl ⟨a,b,us,ws,rfl,rfl,g1,f1,zer (by omega),c _ _ _ _ p R2 (S1.trans S2) .non⟩
  ·obtain⟨b,ws,rfl,f1,f2⟩:=q1.tup
   have l2:=f2.len
   obtain⟨R2,S2⟩:=R1.turn hA (g2.app f2)
   exact .inr ⟨a,b,us,ws,rfl,rfl,g1,f1,zer (by omega),c _ _ _ _ p R2 (S1.trans S2) .non⟩
 ·exact h.elim
theorem e_remove (hK:X.K=K) (hr:Room k X.A) (i:Nat){x:Str} (he:PE X e (liftV K ue)) (hN:X.N[i]?=some x:=by rfl) (hv:Vis X.env.scope x:=by first | exact Or.inl rfl | exact Or.inr (Or.inl rfl) | exact Or.inr (Or.inr rfl)) (hd:(x==("__debug__":Str))=false:=by decide) (hcd:(x==("__classdict__":Str))=false:=by decide)
  (hbase:attributeBase (.Name x npos) "remove" X.env (eval (.Name x npos) X.env)=eval (.Name x npos) X.env:=by rfl)
  (hfew:((backTo cpos (starEach [e] X.env)).all (fun x=>!x.1)&&(backToKw cpos (keywordEach [] X.env)).all (fun x=>x.1.isSome)&&decide ([e].length+([]:List Keyword).length+(if ([]:List Keyword).isEmpty then 0 else 1)<30))=true:=by rfl)
  (hline:(apos.endLine==cpos.line)=true:=by rfl) (hs:starEach [e] X.env=[(false,eval e X.env)]:=by rfl):PE X (.Call (.Attribute (.Name x npos) "remove" apos) [e] [] cpos) (liftV K (uRemove i ue)):=by
 subst hK
 refine(pe_bm PySem.F.plainAttrs_list PySem.F.slot_list_remove PySem.F.type_list_remove (mt_remove (by have:=hr.un;omega)) (zat hN hv hd hcd) (zad he pa_nil hs) hbase hfew hline hs rfl).mono fun σ H Q ⟨A,P,R,h,c⟩=>?_
 unfold uRemove at h
 split at h
 ·rename_i a ys hx
  obtain⟨v,ev,rfl,nb,vs,h1,h2⟩:=R.sl i _ hx
  refine⟨_,ev,.inl ⟨rfl,_,SqL.of h1⟩,A,_,R,h,fun r A1 w H1 p R1 S1 rw'=>?_⟩
  obtain⟨xs,j,hA,⟨n,hn,d1,d2⟩,hit,hno,p⟩:=p
  obtain⟨_,_,_,_,us,g1,g2⟩:=R1.sl i _ hA
  obtain⟨R2,S2⟩:=R1.turn hA (g2.erase j)
  exact⟨a,us,w,AN A1,xs,r,n,j,rfl,rfl,g1,hn,d1,d2,rw',g2,hit,hno,c _ _ _ _ p R2 (S1.trans S2) .non⟩
 ·exact h.elim
end
end L2
namespace L2
open PySem PySem.Spec PyProof.Rows
theorem cS0 {X:Cx}{sc:Scope}{N:List Str}{k:Nat} (kind:sc.kind=.function:=by rfl) (nocell:∀ y∈sc.names,y.2≠.cell:=by decide +kernel) (nofree:∀ y∈sc.names,y.2≠.free:=by decide +kernel) (names:∀ y∈sc.names,y.2=.local→sc.names.lookup y.1=some .local:=by decide +kernel) (len:N.length=k:=by rfl) :
  CompScope X sc (clFrom X.env sc.names []) N k []:=compScope0 kind nocell nofree names len
theorem cS {X:Cx}{sc:Scope}{N:List Str}{k:Nat}{ix:List Nat} (kind:sc.kind=.function:=by rfl) (nocell:∀ y∈sc.names,y.2≠.cell:=by decide +kernel) (names:∀ y∈sc.names,y.2=.local→sc.names.lookup y.1=some .local:=by decide +kernel)
  (hfr:∀ y∈sc.names,y.2=.free→∃ c,X.env.cells.lookup y.1=some c:=by
   intro y hy hf
   simp only[List.mem_cons,List.not_mem_nil,or_false] at hy
   rcases hy with rfl | rfl | rfl | rfl | rfl | rfl | rfl | rfl | rfl | rfl | rfl | rfl | rfl | rfl<;>first | (cases hf;done) | exact⟨_,rfl⟩) (len:N.length=k+ix.length:=by rfl)
  (caught:∀ i j x,ix[i]?=some j→N[k+i]?=some x→X.N[j]?=some x∧(X.env.kindOf x=some .cell∨X.env.kindOf x=some .free)∧((relabel sc X.env).names.lookup x=some .cell∨(relabel sc X.env).names.lookup x=some .free):=by
   intro i j x h1 h2
   rcases i with _ | _ | _ | _ | _ | _ | i<;>first | (cases h1;done) | (cases h1;cases h2;exact⟨rfl,by first | exact .inl rfl | exact .inr rfl,by first | exact .inl rfl | exact .inr rfl⟩)) :
  CompScope X sc (clFrom X.env sc.names []) N k ix:=compScope kind nocell names hfr len caught
def uChnT (G G':G2) (ua ub uc:UE):UT:=fun A Q=>ua A fun x A1=>ub A1 fun y A2=>A2.rho=A1.rho∧∃ z,G x y (.bl z)∧if z=true then uc A2 fun w A3=>A3.rho=A2.rho∧∃ z',G' y w (.bl z')∧Q z' A3 else Q false A2
section
variable {X:Cx}{K:PySem.W.Frag}{a b c:Expr}{ua ub uc:UE}{pos:Pos}{r r':R2}{G G':G2}{op op':CmpOp}
theorem t_chn (ho:OpR X (compareOp op) r) (ho':OpR X (compareOp op') r') (br:Br2 K r G) (br':Br2 K r' G') (ha:PE X a (liftQ K ua)) (hb:PE X b (liftQ K ub)) (hc:PE X c (liftQ K uc)) (hm:lastMarks [op,op'] [b,c]=false:=by with_unfolding_all rfl) :
  PT X (.Compare a [op,op'] [b,c] pos) (liftT K (uChnT G G' ua ub uc)):=(pt_chain ho ho' ha hb hc hm).mono fun σ H Q ⟨A,P,R,h,c⟩=>
 ⟨A,_,R,h,fun x A1 v H1 p1 R1 S1 q1=>⟨A1,_,R1,p1,fun y A2 w H2 p2 R2 S2 q2=>by
  obtain⟨e,z,g,p⟩:=p2
  refine br H2 A2 σ x y v w (.bl z) _ R2 (q1.step R1 S2 e) q2 g fun v' H' s rv=>?_
  cases rv
  refine⟨z,rfl,?_⟩
  have R3:=R2.same s
  have S3:=S1.trans (S2.trans (Stp.same A2 s))
  cases z with
  | false=>exact iteF ⟨false,rfl,c _ A2 H' p R3 S3⟩
  | true=>
   refine iteT ⟨A2,_,R3,p,fun t A3 u H4 p4 R4 S4 q4=>?_⟩
   obtain⟨e4,z',g',p4⟩:=p4
   exact br' H4 A3 σ y t w u (.bl z') _ R4 ((q2.step R2 (Stp.same A2 s) rfl).step R3 S4 e4) q4 g' fun v'' H'' s' rv'=>by
    cases rv'
    exact⟨z',rfl,c z' A3 H'' p4 (R4.same s') (S3.trans (S4.trans (Stp.same A3 s')))⟩⟩⟩
end
structure Gc (K:PySem.W.Frag) (mg:Str→Option Value) (x:Str) (z:PV):Prop where
 ex:∃ v u,mg x=some u∧RelV v u∧∀ N H,RV K N H z v
theorem vg {X:Cx}{K:PySem.W.Frag}{x:Str}{z:PV}{pos:Pos} (G:Gc K X.mg x z) (hg:Gl X x:=by rfl) (hd:(x==("__debug__":Str))=false:=by decide):PE X (.Name x pos) (liftV K (uC z)):=by
 obtain⟨v,u,h1,h2,h3⟩:=G.ex
 exact of_tC (zaC hg h1 h2 hd) h3
theorem Gc.int {K:PySem.W.Frag}{mg:Str→Option Value}{x:Str}{s:Int}{t:Tok} (h:mg x=some (.int s t)):Gc K mg x (.int s):=⟨.int s,_,h,⟨t,rfl⟩,fun _ _=>.int s⟩
section
variable {X:Cx}{K:PySem.W.Frag}{e:Expr}{ue:UE}{pos npos kpos spos:Pos}{k kk:Nat}
end
def tTake:Tr:=fun xs st P=>∃ m,xs=[.raw (.ref st.d),.int m]∧st.n≤100000∧0<m∧m<2 ^ 200∧∀ r:Int,0≤r→r<m→P (.int r) { st with n:=st.n+1 }
theorem take_of {K:PySem.W.Frag}{vs:List V}{H:Hp}{Q:VK}{E:XK} (h:spS K false tTake vs H Q E):spTake K vs H Q E:=by
 obtain⟨B,xs,st,P,dom,hd,h1,h2,rv,⟨m,rfl,n1,m0,m1,p⟩,fin⟩:=h
 cases rv with
 | cons r1 r2=>
  cases r1
  cases r2 with
  | cons r3 r4=>
   cases r3
   cases r4
   exact⟨st.d,st.a,st.n,st.b,m,rfl,h1,h2.scr,n1,m0,m1,fun r H' a1 a2 s b=>fin _ { st with n:=st.n+1 } _ H' (p r a1 a2) rfl s (by
    obtain⟨kvs,e⟩:=h1.dk
    exact h2.keepF fun o u h2=>b _ _ h2 (fun z=>by rw[z,e] at h2;cases h2)) ⟨b,.int r⟩⟩
end L2
namespace L2
open PySem PySem.Spec PyProof.Rows
theorem DGet.kR {H:Hp}{a:Addr}{kvs:List (Key×V)}{k:Key} (e:Rd H a (.dK kvs)):DGet H a (kV k) (valV kvs k):=.inl ⟨kvs,k,e,rfl,rfl⟩
def pk:PV→Option Key
 | .int i=>some (.inl i)
 | .str s=>some (.inr s)
 | _=>none
def kP:Key→PV
 | .inl i=>.int i
 | .inr s=>.str s
def dlook:List (PV×PV)→Key→Option PV
 | [],_=>none
 | (p,x)::r,k=>if pk p=some k then some x else dlook r k
def dput' (kvs:List (PV×PV)) (k:Key) (v:PV):List (PV×PV):=if (dlook kvs k).isSome then kvs.map (fun kv=>if pk kv.1=some k then (kv.1,v) else kv) else kvs++[(kP k,v)]
section
variable {K:PySem.W.Frag}{N:Addr→Prop}{H:Hp}
theorem rv_kV {p:PV}{k:Key} (r:RV K N H p (kV k)):pk p=some k:=by
 cases k with
 | inl i=>cases (show RV K N H p (.int i) from r);rfl
 | inr i=>cases (show RV K N H p (.str i) from r);rfl
theorem rv_pk {p:PV}{v:V}{k:Key} (h:pk p=some k) (r:RV K N H p v):v=kV k:=by
 cases p<;>first | (cases h;done) | (cases h;cases r;rfl)
abbrev kpair (kv:Key×V):V×V:=(kV kv.1,kv.2)
theorem dl_val:∀ {kvs:List (PV×PV)}{kws:List (Key×V)},RKs K N H kvs (kws.map kpair)→∀ k,(∀ x,dlook kvs k=some x→∃ v,valV kws k=some v∧RV K N H x v)∧(dlook kvs k=none→valV kws k=none)
 | [],[],_,k=>⟨fun x h=>(by cases h),fun _=>rfl⟩
 | [],_::_,h,_=>nomatch h
 | _::_,[],h,_=>nomatch h
 | (p,x)::kvs,kw::kws,h,k=>by
  cases h with
  | cons r1 r2 r3=>
   have e:=rv_kV r1
   have ih:=dl_val r3 k
   by_cases hk:kw.1=k
   ·have e':pk p=some k:=by rw[e,hk]
    unfold dlook
    rw[if_pos e',zbI hk]
    exact⟨fun y hy=>(by cases hy;exact⟨_,rfl,r2⟩),fun z=>by cases z⟩
   ·have e':¬ pk p=some k:=by rw[e];exact fun z=>hk (Option.some.inj z)
    unfold dlook
    rw[if_neg e',zbJ hk]
    exact ih
theorem dl_some {kvs:List (PV×PV)}{kws:List (Key×V)} (h:RKs K N H kvs (kws.map kpair)) (k:Key):(dlook kvs k).isSome=(valV kws k).isSome:=by
 cases e:dlook kvs k with
 | none=>rw[(dl_val h k).2 e];rfl
 | some x=>obtain⟨v,hv,_⟩:=(dl_val h k).1 x e;rw[hv];rfl
end
section
variable {X:Cx}{K:PySem.W.Frag}{e:Expr}{ue:UE}{pos:Pos}
end
section
variable {X:Cx}{K:PySem.W.Frag}{e ke de fe:Expr}{ue uk ud uf:UE}{pos npos spos apos cpos:Pos}{k:Nat}
def gDix:G2
 | .dic kvs,kp,z=>∃ k,pk kp=some k∧dlook kvs k=some z
 | _,_,_=>False
def gDin (neg:Bool):G2
 | kp,.dic kvs,z=>∃ k,pk kp=some k∧z=.bl (neg^^(dlook kvs k).isSome)
 | _,_,_=>False
end
def kvOf:List PV→Option (List (Key×PV))
 | []=>some []
 | .tup [p,x]::r=>match pk p,kvOf r with
  | some k,some l=>some ((k,x)::l)
  | _,_=>none
 | _=>none
def dictOf (l:List (Key×PV)):List (PV×PV):=l.foldl (fun acc kv=>dput' acc kv.1 kv.2) []
def gDict:G1
 | .lst xs,z=>∃ l,kvOf xs=some l∧l.length≤1000∧z=.dic (dictOf l)
 | _,_=>False
section
variable {X:Cx}{K:PySem.W.Frag}{e:Expr}{ue:UE}{p pos:Pos}
end
end L2
namespace L2
open PySem PySem.Spec PyProof.Rows
def rIxD:R2:=fun x y H Q=>∃ a v,x=.ref a∧DGet H a y (some v)∧Q v H
theorem ix_dict {X:Cx} (hu:X.A.units+1<cLine):IxR X rIxD:=by
 intro value slice pins s σ H x y v u Q I rx ry h hs
 obtain⟨a,z,rfl,g,q⟩:=h
 cases rx
 have hT:=zcM I g
 unfold subscriptTail
 refine wpAny_bind ?_
 rw[getitemInPython_of_ne hT.not_modules]
 refine wpAny_bind (wpAny_specialOf hT PySem.F.slot_dict_getitem.lookup ?_)
 have fin:wpAny (model X.prog X.w) X.A (subscripted slice false (.ref a) u) (fun r s₃=>wpAny (model X.prog X.w) X.A (letTemporaryGo value (.ref a) r >>= fun _=>pure r) (EP X pins σ Q) X.xe s₃) X.xe s:=by
  rw[hs]
  exact wpAny_operating (zeD hu I g ry fun w' s3 I3 rw'=>wpAny_bind (wpAny_letTemporaryGo (wpAny_pure ⟨z,H,I3,rw',q⟩)))
 first
  | exact wpAny_pure (wpAny_bind fin)
  | exact wpAny_bind (wpAny_pure (wpAny_bind fin))
  | exact wpAny_bind fin
def rInD (neg:Bool):R2:=fun y x H Q=>∃ a o,x=.ref a∧DGet H a y o∧Q (.bl (neg^^o.isSome)) H
theorem op_inD {X:Cx} (hu:X.A.units+1<cLine):OpR X (compareOp .In) (rInD false):=by
 intro pins s σ H y x u v Q I ry rx h
 obtain⟨a,o,rfl,g,q⟩:=h
 cases rx
 exact d_in hu I g ry fun s3 I3=>⟨.bl o.isSome,H,I3,rfl,by simpa using q⟩
theorem op_notInD {X:Cx} (hu:X.A.units+1<cLine):OpR X (compareOp .NotIn) (rInD true):=by
 intro pins s σ H y x u v Q I ry rx h
 obtain⟨a,o,rfl,g,q⟩:=h
 cases rx
 exact d_notIn hu I g ry fun s3 I3=>⟨.bl (!o.isSome),H,I3,rfl,by simpa using q⟩
def gIxA (x y z:PV):Prop:=gIx x y z∨gDix x y z
def gInA (neg:Bool) (x y z:PV):Prop:=gIn neg x y z∨gDin neg x y z
section
variable {X:Cx}{K:PySem.W.Frag}{a b:Expr}{ua ub:UE}{pos:Pos}{k:Nat}
theorem br_ixA:Br2 K (fun x y H Q=>rIx K x y H Q∨rIxD x y H Q) gIxA:=by
 intro H A σ x y v w z Q R q1 q2 g c
 rcases g with g | g
 ·exact .inl (br_ix H A σ x y v w z Q R q1 q2 g c)
 ·cases x<;>first | exact g.elim | skip
  obtain⟨key,hkey,hl⟩:=g
  obtain⟨a,kws,rfl,h1,h2⟩:=q1.dic R
  have rk:RV K (AN A) H y w:=q2.rv fun c z=>by subst z;cases c<;>cases hkey
  cases rv_pk hkey rk
  obtain⟨u,hu,ru⟩:=(dl_val h2 key).1 z hl
  refine .inr ⟨a,u,rfl,?_,c _ H (Same.refl H) ru⟩
  rw[← hu]
  exact DGet.kR h1
theorem br_inA {neg:Bool}:Br2 K (fun x y H Q=>rInA K neg x y H Q∨rInD neg x y H Q) (gInA neg):=by
 intro H A σ y x w v z Q R q1 q2 g c
 rcases g with g | g
 ·exact .inl (br_in H A σ y x w v z Q R q1 q2 g c)
 ·cases x<;>first | (cases y<;>exact g.elim) | skip
  rename_i kvs
  have g':∃ k,pk y=some k∧z=.bl (neg^^(dlook kvs k).isSome):=by cases y<;>exact g
  obtain⟨key,hkey,rfl⟩:=g'
  obtain⟨a,kws,rfl,h1,h2⟩:=q2.dic R
  have rk:RV K (AN A) H y w:=q1.rv fun c z=>by subst z;cases c<;>cases hkey
  cases rv_pk hkey rk
  refine .inr ⟨a,_,rfl,DGet.kR (k:=key) h1,?_⟩
  rw[← dl_some h2 key]
  exact c _ H (Same.refl H) (.bl _)
theorem zaf (hK:X.K=K) (hr:Room k X.A) (ha:PE X a (liftQ K ua)) (hb:PE X b (liftQ K ub)) (hs:PlainIx b:=by intro _ _;rfl):PE X (.Subscript a b pos) (liftV K (u2 gIxA ua ub)):=by
 subst hK
 exact s_ix (ix_seq.or (ix_dict (zfh hr))) br_ixA ha hb hs
theorem e_inA (hK:X.K=K) (hr:Room k X.A) (ha:PE X a (liftQ K ua)) (hb:PE X b (liftQ K ub)) (hm:behindInMarks .In b=false:=by with_unfolding_all rfl):PE X (.Compare a [.In] [b] pos) (liftV K (u2 (gInA false) ua ub)):=s_cmp ((op_inA hK hr).or (op_inD (zfh hr))) br_inA ha hb hm
theorem t_inA (hK:X.K=K) (hr:Room k X.A) (ha:PE X a (liftQ K ua)) (hb:PE X b (liftQ K ub)) (hm:behindInMarks .In b=false:=by with_unfolding_all rfl):PT X (.Compare a [.In] [b] pos) (liftT K (u2t (gInA false) ua ub)):=zbx ((op_inA hK hr).or (op_inD (zfh hr))) br_inA ha hb hm
theorem t_ninA (hK:X.K=K) (hr:Room k X.A) (ha:PE X a (liftQ K ua)) (hb:PE X b (liftQ K ub)) (hm:behindInMarks .NotIn b=false:=by with_unfolding_all rfl):PT X (.Compare a [.NotIn] [b] pos) (liftT K (u2t (gInA true) ua ub)):=zbx ((op_notInA hK hr).or (op_notInD (zfh hr))) br_inA ha hb hm
end
section
variable {i:Int}{s u:Str}{xs ys:List PV}{z x:PV}{kvs:List (PV×PV)}{n:Bool}
theorem gIxA_t:gIxA (.tup xs) (.int i) z=(atI xs i=some z):=by simp [gIxA,gIx,gDix]
theorem gIxA_l:gIxA (.lst xs) (.int i) z=(atI xs i=some z):=by simp [gIxA,gIx,gDix]
theorem gIxA_s:gIxA (.str s) (.int i) z=(s.length≤100000∧∃ c,atI s.cps.toList i=some c∧z=.str ⟨#[c]⟩):=by simp [gIxA,gIx,gDix]
theorem gIxA_d:gIxA (.dic kvs) x z=(∃ k,pk x=some k∧dlook kvs k=some z):=by cases x<;>simp [gIxA,gIx,gDix]
theorem gInA_t:gInA n x (.tup ys) z=((∀ c:OC,x≠c.pv)∧(∃ n,n≤80∧Dp n x∧∀ p∈ys,Dp n p)∧z=.bl (n^^pin x ys)):=by cases x<;>simp [gInA,gIn,gDin]
theorem gInA_l:gInA n x (.lst ys) z=((∀ c:OC,x≠c.pv)∧(∃ n,n≤80∧Dp n x∧∀ p∈ys,Dp n p)∧z=.bl (n^^pin x ys)):=by cases x<;>simp [gInA,gIn,gDin]
theorem gInA_s:gInA n (.str s) (.str u) z=(z=.bl (n^^occ s u)):=by simp [gInA,gIn,gDin]
theorem gInA_d:gInA n x (.dic kvs) z=(∃ k,pk x=some k∧z=.bl (n^^(dlook kvs k).isSome)):=by cases x<;>simp [gInA,gIn,gDin]
end
end L2
namespace L2
open PySem PySem.Spec PyProof.Rows
section
variable {X:Cx}{K:PySem.W.Frag}{e:Expr}{ue:UE}{p pos p1 pos1:Pos}
end
structure Df (K:PySem.W.Frag) (mg:Str→Option Value) (x:Str) (st:Stmt):Prop where
 ex:∃ f fd,Fun K x x st f fd∧mg x=some (.ref f)
section
variable {P:Program}{w:World}{K:PySem.W.Frag}{mg:Str→Option Value}{base:Heap}
theorem Kn.mono {j k:Nat}{x:Str}{sp:Sp} (h:Kn P w K mg base j x sp) (l:j≤k):Kn P w K mg base k x sp:=by
 obtain⟨f,fd,ps,F,r⟩:=h.ex
 exact⟨f,fd,ps,F.mono l,r⟩
theorem Df.okV {x:Str}{st:Stmt}{N ps:List Str}{k:Nat}{fr:Bool}{G:Rel} (D:Df K mg x st) (S:FnScope N ps (defScope st))
  (bd:∀ (kV doc pm:Value) (an:Option Addr) (cdv ct:Value) (us:List Value),us.length=ps.length→bindArgs (PySem.W.fnOf x x (defArgs st) (defBody st) (defScope st) .none kV doc pm an cdv ct) ⟨us,[]⟩=pure (ps.zip us))
  (len:∀ xs r,G xs r→xs.length=ps.length) (lN:ps.length≤N.length)
  (hbody:∀ (f:Addr) (cdv:Value) (A:Around) (outer:List Env) (s:Shared) (H:Hp) (E:XK),Room k (A.deeper (envOfC x (defScope st) s.heap.objs.size f cdv)) →
   ∃ u,PSs (cxOf CX0 P w K mg base N x (defScope st) f cdv A outer s H E).nox (defBody st) (liftS K u)∧∀ B xs r,G xs r→u (endsV fr r) (entry B N xs none)):Kn P w K mg base (k+1) x (spV K fr G):=by
 obtain⟨f,fd,F,hm⟩:=D.ex
 exact⟨f,fd,ps,F.okV S len lN (hbody f),F.binds bd,F.kp,hm⟩
theorem Df.okS {x:Str}{st:Stmt}{N ps:List Str}{k:Nat}{fr:Bool}{T:Tr} (D:Df K mg x st) (S:FnScope N ps (defScope st))
  (bd:∀ (kV doc pm:Value) (an:Option Addr) (cdv ct:Value) (us:List Value),us.length=ps.length→bindArgs (PySem.W.fnOf x x (defArgs st) (defBody st) (defScope st) .none kV doc pm an cdv ct) ⟨us,[]⟩=pure (ps.zip us))
  (len:∀ xs st P,T xs st P→xs.length=ps.length) (lN:ps.length≤N.length)
  (hbody:∀ (f:Addr) (cdv:Value) (A:Around) (outer:List Env) (s:Shared) (H:Hp) (E:XK),Room k (A.deeper (envOfC x (defScope st) s.heap.objs.size f cdv)) →
   ∃ u,PSs (cxOf CX0 P w K mg base N x (defScope st) f cdv A outer s H E).nox (defBody st) (liftS K u)∧∀ B xs st P,T xs st P→u (endsS fr P) (entry B N xs (some st))):Kn P w K mg base (k+1) x (spS K fr T):=by
 obtain⟨f,fd,F,hm⟩:=D.ex
 exact⟨f,fd,ps,F.okS S len lN (hbody f),F.binds bd,F.kp,hm⟩
end
end L2
namespace L2
def Rl1 (P:PV→PV→Prop):Rel:=fun xs r=>∃ x0,xs=[x0]∧P x0 r
def Rl2 (P:PV→PV→PV→Prop):Rel:=fun xs r=>∃ x0 x1,xs=[x0,x1]∧P x0 x1 r
def Rl3 (P:PV→PV→PV→PV→Prop):Rel:=fun xs r=>∃ x0 x1 x2,xs=[x0,x1,x2]∧P x0 x1 x2 r
def Rl4 (P:PV→PV→PV→PV→PV→Prop):Rel:=fun xs r=>∃ x0 x1 x2 x3,xs=[x0,x1,x2,x3]∧P x0 x1 x2 x3 r
theorem Rl1.len {P:PV→PV→Prop}{xs:List PV}{r:PV} (h:Rl1 P xs r):xs.length=1:=by obtain⟨_,rfl,_⟩:=h;rfl
theorem Rl2.len {P:PV→PV→PV→Prop}{xs:List PV}{r:PV} (h:Rl2 P xs r):xs.length=2:=by obtain⟨_,_,rfl,_⟩:=h;rfl
theorem Rl3.len {P:PV→PV→PV→PV→Prop}{xs:List PV}{r:PV} (h:Rl3 P xs r):xs.length=3:=by obtain⟨_,_,_,rfl,_⟩:=h;rfl
abbrev PS1:=SSt→(PV→SSt→Prop)→Prop
def Tr1 (T:PS1):Tr:=fun xs st P=>xs=[.raw (.ref st.d)]∧T st P
def Tr2 (T:PV→PS1):Tr:=fun xs st P=>∃ x1,xs=[.raw (.ref st.d),x1]∧T x1 st P
def Tr3 (T:PV→PV→PS1):Tr:=fun xs st P=>∃ x1 x2,xs=[.raw (.ref st.d),x1,x2]∧T x1 x2 st P
def Tr4 (T:PV→PV→PV→PS1):Tr:=fun xs st P=>∃ x1 x2 x3,xs=[.raw (.ref st.d),x1,x2,x3]∧T x1 x2 x3 st P
theorem Tr1.len {T:PS1}{xs:List PV}{st:SSt}{P:PV→SSt→Prop} (h:Tr1 T xs st P):xs.length=1:=by obtain⟨rfl,_⟩:=h;rfl
def zcr:PV→PS1:=fun x1 st P=>∃ m,x1=.int m∧st.n≤100000∧0<m∧m<2 ^ 200∧∀ r:Int,0≤r→r<m→P (.int r) { st with n:=st.n+1 }
theorem take2 {xs:List PV}{st:SSt}{P:PV→SSt→Prop} (h:Tr2 zcr xs st P):tTake xs st P:=by
 obtain⟨_,rfl,m,rfl,h⟩:=h
 exact⟨m,rfl,h⟩
end L2
namespace L2
open PySem
section
variable {i j:Int}{a b:Bool}{s u:Str}{xs ys:List PV}{z x:PV}{P:List PV→Prop}{C:Int→Int→Prop}{f:Int→Int→PV}{l h:Option Int}{kvs:List (PV×PV)}{n:Bool}
theorem gAdd_i:gAdd (.int i) (.int j) z=(z=.int (i+j)):=rfl
theorem gAdd_s:gAdd (.str s) (.str u) z=(s.length+u.length≤100000∧z=.str (s++u)):=rfl
theorem gAdd_t:gAdd (.tup xs) (.tup ys) z=(xs.length+ys.length≤100000∧z=.tup (xs++ys)):=rfl
theorem gAdd_l:gAdd (.lst xs) (.lst ys) z=(xs.length+ys.length≤100000∧z=.lst (xs++ys)):=rfl
theorem gCat_l:gCat (.lst xs) (.lst ys) z=(xs.length+ys.length≤100000∧z=.lst (xs++ys)):=rfl
theorem gI_i:gI C f (.int i) (.int j) z=(C i j∧z=f i j):=rfl
theorem gI0_i:gI0 f (.int i) (.int j) z=(z=f i j):=rfl
theorem gLen_t:gLen (.tup xs) z=(z=.int xs.length):=rfl
theorem gLen_l:gLen (.lst xs) z=(z=.int xs.length):=rfl
theorem gLen_s:gLen (.str s) z=(s.length≤100000∧z=.int s.length):=rfl
theorem gSl_t:gSl (.tup xs) l h z=(z=.tup (cutP xs l h)):=rfl
theorem gSl_l:gSl (.lst xs) l h z=(z=.lst (cutP xs l h)):=rfl
theorem gSl_s:gSl (.str s) l h z=(s.length≤100000∧z=.str (Txt.slice s l h)):=rfl
theorem gSlF_l:gSlF (.lst xs) l h z=(z=.lst (cutP xs l h)):=rfl
theorem zfM:gTuple (.tup xs) z=(z=.tup xs):=rfl
theorem zfN:gTuple (.lst xs) z=(z=.tup xs):=rfl
theorem gList_t:gList (.tup xs) z=(z=.lst xs):=rfl
theorem gList_l:gList (.lst xs) z=(z=.lst xs):=rfl
theorem gLt_i:gLt (.int i) (.int j) z=(z=.bl (decide (i<j))):=rfl
theorem gLt_s:gLt (.str s) (.str u) z=(z=.bl (decide (s.cps.toList<u.cps.toList))):=rfl
theorem gLe_i:gLe (.int i) (.int j) z=(z=.bl (decide (i≤j))):=rfl
theorem gLe_s:gLe (.str s) (.str u) z=(z=.bl (!decide (u.cps.toList<s.cps.toList))):=rfl
theorem gIs_b:gIs0 (.bl a) (.bl b) z=(z=.bl (a==b)):=rfl
theorem gIs_nn:gIs0 .non .non z=(z=.bl true):=rfl
theorem gIs_tn:gIs0 (.tup xs) .non z=(z=.bl false):=rfl
theorem gIs_ln:gIs0 (.lst xs) .non z=(z=.bl false):=rfl
theorem gIs_in:gIs0 (.int i) .non z=(z=.bl false):=rfl
theorem gIs_sn:gIs0 (.str s) .non z=(z=.bl false):=rfl
theorem gIsN_nn:gIsN .non .non z=(z=.bl false):=rfl
theorem gIsN_tn:gIsN (.tup xs) .non z=(z=.bl true):=rfl
theorem gIsN_ln:gIsN (.lst xs) .non z=(z=.bl true):=rfl
theorem gIsN_in:gIsN (.int i) .non z=(z=.bl true):=rfl
theorem gIsN_sn:gIsN (.str s) .non z=(z=.bl true):=rfl
theorem gAll_l:gAll (.lst xs) z=(∃ bs,bls xs=some bs∧z=.bl (bs.all id)):=rfl
theorem gAny_l:gAny (.lst xs) z=(∃ bs,bls xs=some bs∧z=.bl (bs.any id)):=rfl
theorem gInt_i:gInt (.int i) z=(z=.int i):=rfl
theorem gInt_b:gInt (.bl a) z=(z=.int (if a then 1 else 0)):=rfl
theorem gDix_d:gDix (.dic kvs) x z=(∃ k,pk x=some k∧dlook kvs k=some z):=rfl
theorem gDin_d:gDin n x (.dic kvs) z=(∃ k,pk x=some k∧z=.bl (n^^(dlook kvs k).isSome)):=by cases x<;>rfl
theorem gDict_l:gDict (.lst xs) z=(∃ l,kvOf xs=some l∧l.length≤1000∧z=.dic (dictOf l)):=rfl
theorem tru_b:ptru (.bl a)=some a:=rfl
theorem tru_i:ptru (.int i)=some (i != 0):=rfl
theorem tru_t:ptru (.tup xs)=some (!xs.isEmpty):=rfl
theorem tru_l:ptru (.lst xs)=some (!xs.isEmpty):=rfl
theorem tru_n:ptru .non=some false:=rfl
theorem ty_ss:isTy .str (.str s)=some true:=rfl
theorem ty_tt:isTy .tuple (.tup xs)=some true:=rfl
theorem ty_ll:isTy .list (.lst xs)=some true:=rfl
theorem ty_ii:isTy .int (.int i)=some true:=rfl
theorem ty_bi:isTy .bool (.int i)=some false:=rfl
theorem ty_st:isTy .str (.tup xs)=some false:=rfl
theorem ty_ts:isTy .tuple (.str s)=some false:=rfl
theorem zeC (n:Nat) (s:Str):Dp n (.str s):=⟨0,rfl,Nat.zero_le _⟩
theorem dp_int (n:Nat) (s:Int):Dp n (.int s):=⟨0,rfl,Nat.zero_le _⟩
theorem dp_non (n:Nat):Dp n .non:=⟨0,rfl,Nat.zero_le _⟩
theorem oc_str (s:Str):∀ c:OC,PV.str s≠c.pv:=by intro c;cases c<;>(intro z;cases z)
theorem bls_map {α:Type} (f:α→Bool) (l:List α):bls (l.map fun x=>PV.bl (f x))=some (l.map f):=by
 induction l with
 | nil=>rfl
 | cons x l ih=>show(bls (l.map _)).map (f x::·)=_;rw[ih];rfl
end
end L2
namespace L2
open PySem
section
variable {α:Type}{k:Nat}{ix:List Nat}{A1:AS}{g:UG}{t:UT}{ue:UE}{Q:PV→AS→Prop}
theorem pre_of {e:α→PV}{l:List α}{d r:List PV}{x:PV} (h:l.map e=d++x::r):∃ d1 x1 r1,l=d1++x1::r1∧d=d1.map e∧x=e x1∧d1=l.take d.length:=by
 obtain⟨d1,r0,rfl,rfl,h2⟩:=List.map_eq_append_iff.mp h
 obtain⟨x1,r1,rfl,rfl,rfl⟩:=List.map_eq_cons_iff.mp h2
 exact⟨d1,x1,r1,rfl,rfl,rfl,by simp⟩
theorem zeF (l:List α) (e F:α→PV) (few:l.length≤1000000) (each:∀ B x,x∈l→∀ R:PV→AS→Prop,(∀ A4,Kp k ix A1.rho A4→A4.S=A1.S→R (F x) A4)→g (e x) ⟨B,inn k ix A1.rho,A1.S⟩ fun A2=>ue A2 R) (fin:Q (.lst (l.map F)) A1):compB k ix (l.map e) A1 g uYes ue Q:=by
 refine⟨by rw[List.length_map];exact few,fun d ys S=>ys=(l.take d.length).map F∧S=A1.S,⟨by simp,rfl⟩,?_,?_⟩
 ·rintro B d x r ys S e' ⟨rfl,rfl⟩
  obtain⟨d1,x1,r1,e1,rfl,rfl,e2⟩:=pre_of e'
  have e0:l.take (d1.map e++[e x1]).length=d1++[x1]:=by
   rw[e1,List.length_append,List.length_map,List.length_singleton,← List.singleton_append,← List.append_assoc,List.take_left' (by simp)]
  have e3:(l.take (d1.map e).length).map F++[F x1]=(l.take (d1.map e++[e x1]).length).map F:=by
   rw[e0,← e2];simp
  have q:=each B x1 (by rw[e1];simp) (fun y A4=>Kp k ix A1.rho A4∧(l.take (d1.map e).length).map F++[y]=(l.take (d1.map e++[e x1]).length).map F∧A4.S=A1.S) fun A4 k1 s1=>⟨k1,e3,s1⟩
  have e4:(fun A2=>ue A2 fun y A4=>Kp k ix A1.rho A4∧(l.take (d1.map e).length).map F++[y]=(l.take (d1.map e++[e x1]).length).map F∧A4.S=A1.S)=fun A2=>uYes A2 fun b A3=>if b=true then ue A3 fun y A4=>Kp k ix A1.rho A4∧(l.take (d1.map e).length).map F++[y]=(l.take (d1.map e++[e x1]).length).map F∧A4.S=A1.S else Kp k ix A1.rho A3∧(l.take (d1.map e).length).map F=(l.take (d1.map e++[e x1]).length).map F∧A3.S=A1.S:=by
   funext A2
   unfold uYes;dsimp only
   rw[if_pos rfl]
  rw[e4] at q
  exact q
 ·rintro ys S ⟨rfl,rfl⟩
  rw[List.length_map,List.take_length]
  exact fin
theorem comp_f (l:List α) (e F:α→PV) (p:α→Bool) (few:l.length≤1000000) (each:∀ B x,x∈l→∀ (Rs:PV→AS→Prop) (Rn:AS→Prop),(∀ A4,p x=true→Kp k ix A1.rho A4→A4.S=A1.S→Rs (F x) A4)→(∀ A4,p x=false→Kp k ix A1.rho A4→A4.S=A1.S→Rn A4) →
  g (e x) ⟨B,inn k ix A1.rho,A1.S⟩ fun A2=>t A2 fun b A3=>if b=true then ue A3 Rs else Rn A3) (fin:Q (.lst ((l.filter p).map F)) A1):compB k ix (l.map e) A1 g t ue Q:=by
 refine⟨by rw[List.length_map];exact few,fun d ys S=>ys=((l.take d.length).filter p).map F∧S=A1.S,⟨by simp,rfl⟩,?_,?_⟩
 ·rintro B d x r ys S e' ⟨rfl,rfl⟩
  obtain⟨d1,x1,r1,e1,rfl,rfl,e2⟩:=pre_of e'
  have e3:l.take (d1.map e++[e x1]).length=d1++[x1]:=by
   rw[e1,List.length_append,List.length_map,List.length_singleton,← List.singleton_append,← List.append_assoc,List.take_left' (by simp)]
  dsimp (config:={failIfUnchanged:=false}) only
  rw[e3,← e2]
  refine each B x1 (by rw[e1];simp) _ _ (fun A4 h1 k1 s1=>⟨k1,?_,s1⟩) fun A4 h1 k1 s1=>⟨k1,?_,s1⟩
  ·rw[List.filter_append,List.filter_cons,h1];simp
  ·rw[List.filter_append,List.filter_cons,h1];simp
 ·rintro ys S ⟨rfl,rfl⟩
  rw[List.length_map,List.take_length]
  exact fin
theorem gAll_m {l:List α}{f:α→Bool}{z:PV}:gAll (.lst (l.map fun x=>PV.bl (f x))) z=(z=.bl (l.all f)):=by
 rw[gAll_l,bls_map]
 simp [List.all_map,Function.comp_def]
theorem gAny_m {l:List α}{f:α→Bool}{z:PV}:gAny (.lst (l.map fun x=>PV.bl (f x))) z=(z=.bl (l.any f)):=by
 rw[gAny_l,bls_map]
 simp [List.any_map,Function.comp_def]
variable {C:AS→Prop}{ub:US}{E:UEnds}
theorem for_m (l:List α) (e:α→PV) (I:List α→AS→Prop) (h0:I [] A1) (hC:∀ d A2,I d A2→C A2)
  (step:∀ d x r A2,l=d++x::r→I d A2→g (e x) A2 fun A3=>ub { E with nx:=I (d++[x]),ct:=I (d++[x]),bk:=E.nx } A3) (fin:∀ A2,I l A2→E.nx A2):forB (l.map e) C A1 g ub E:=by
 refine⟨fun d A=>I (l.take d.length) A,by simpa using h0,fun d A2 h=>hC _ A2 h,?_,?_⟩
 ·rintro d x r A2 e' hI
  obtain⟨d1,x1,r1,e1,rfl,rfl,e2⟩:=pre_of e'
  have e3:l.take (d1.map e++[e x1]).length=d1++[x1]:=by
   rw[e1,List.length_append,List.length_map,List.length_singleton,← List.singleton_append,← List.append_assoc,List.take_left' (by simp)]
  rw[← e2] at hI
  dsimp (config:={failIfUnchanged:=false}) only
  rw[e3]
  exact step d1 x1 r1 A2 e1 hI
 ·intro A2 hI
  rw[List.length_map,List.take_length] at hI
  exact fin A2 hI
end
theorem dp_t {n:Nat}{xs:List PV} (h:∀ x∈xs,Dp n x):Dp (n+1) (.tup xs):=dp_tup.mpr (dp_all.mpr h)
theorem dp_l {n:Nat}{xs:List PV} (h:∀ x∈xs,Dp n x):Dp (n+1) (.lst xs):=dp_lst.mpr (dp_all.mpr h)
theorem pin_str (s:Str) (l:List Str):pin (.str s) (l.map PV.str)=l.contains s:=by
 unfold pin
 rw[List.any_map,List.contains_eq_any_beq]
 congr 1
 funext y
 show(y==s)=(s==y)
 rw[Bool.eq_iff_iff,beq_iff_eq,beq_iff_eq]
 exact eq_comm
end L2
namespace L2
open PySem
def ex1 {α:Type} (P:α→Prop) (Q:α→AS→Prop) (A:AS):Prop:=∃ z,P z∧Q z A
section
variable {α:Type}{P:α→Prop}{Q:α→AS→Prop}{A:AS}{v:α}{p q p3:Prop}
theorem zaa (v:α) (h:P v) (k:Q v A):ex1 P Q A:=⟨v,h,k⟩
theorem ex1_e:ex1 (fun z=>z=v) Q A=Q v A:=by simp [ex1]
theorem ex1_e':ex1 (fun z=>v=z) Q A=Q v A:=by simp [ex1]
theorem ex1_a:ex1 (fun z=>p∧z=v) Q A=(p∧Q v A):=by
 unfold ex1
 exact propext ⟨fun⟨_,⟨h,rfl⟩,k⟩=>⟨h,k⟩,fun⟨h,k⟩=>⟨_,⟨h,rfl⟩,k⟩⟩
theorem ex1_a':ex1 (fun z=>p∧v=z) Q A=(p∧Q v A):=by
 unfold ex1
 exact propext ⟨fun⟨_,⟨h,rfl⟩,k⟩=>⟨h,k⟩,fun⟨h,k⟩=>⟨_,⟨h,rfl⟩,k⟩⟩
theorem ex1_a2:ex1 (fun z=>p∧q∧z=v) Q A=(p∧q∧Q v A):=by
 unfold ex1
 exact propext ⟨fun⟨_,⟨h,h2,rfl⟩,k⟩=>⟨h,h2,k⟩,fun⟨h,h2,k⟩=>⟨_,⟨h,h2,rfl⟩,k⟩⟩
theorem ex1_a3:ex1 (fun z=>p∧q∧p3∧z=v) Q A=(p∧q∧p3∧Q v A):=by
 unfold ex1
 exact propext ⟨fun⟨_,⟨h,h2,h3,rfl⟩,k⟩=>⟨h,h2,h3,k⟩,fun⟨h,h2,h3,k⟩=>⟨_,⟨h,h2,h3,rfl⟩,k⟩⟩
end
def cif (c:Bool) (P Q:AS→Prop) (A:AS):Prop:=if c=true then P A else Q A
section
variable {c:Bool}{P Q:AS→Prop}{A:AS}
theorem cif_t:cif true P Q A=P A:=by simp [cif]
theorem cif_f:cif false P Q A=Q A:=by simp [cif]
theorem cif_n:cif (!c) P Q A=cif c Q P A:=by cases c<;>simp [cif]
theorem zai (h:c=true→P A) (k:c=false→Q A):cif c P Q A:=by
 cases c
 ·rw[cif_f];exact k rfl
 ·rw[cif_t];exact h rfl
end
def varS (s:Option (Option Sl)) (i:Nat) (A:AS) (Q:PV→AS→Prop):Prop:=match s with
 | some (some (.val x))=>Q x A
 | some (some (.own _ (.lst xs)))=>Q (.lst xs) (frz A i (.lst xs))
 | some (some (.own _ (.dic xs)))=>Q (.dic xs) (frz A i (.dic xs))
 | _=>False
def pkS (s:Option (Option Sl)) (A:AS) (Q:PV→AS→Prop):Prop:=match s with
 | some (some (.val x))=>Q x A
 | some (some (.own _ (.lst xs)))=>Q (.lst xs) A
 | some (some (.own _ (.dic xs)))=>Q (.dic xs) A
 | some (some (.peek _ (.lst xs)))=>Q (.lst xs) A
 | some (some (.peek _ (.dic xs)))=>Q (.dic xs) A
 | _=>False
def ownC (nx:AS→Prop) (r:PV) (A:AS) (i:Nat):Prop:=∃ c:OC,r=c.pv∧∀ p,nx (put A i (.own p c))
def retO (s:Option (Option Sl)) (i:Nat) (A:AS) (Q:PV→AS→Prop):Prop:=match s with
 | some (some (.own _ (.lst xs)))=>Q (.lst xs) (forget A i)
 | some (some (.own _ (.dic xs)))=>Q (.dic xs) (forget A i)
 | _=>False
def lstO (s:Option (Option Sl)) (F:Addr→List PV→AS→Prop) (A:AS):Prop:=match s with
 | some (some (.own a (.lst xs)))=>F a xs A
 | _=>False
def dicO (s:Option (Option Sl)) (F:Addr→List (PV×PV)→AS→Prop) (A:AS):Prop:=match s with
 | some (some (.own a (.dic xs)))=>F a xs A
 | _=>False
def itK (x:PV) (Q:List PV→(AS→Prop)→AS→Prop) (A:AS):Prop:=itV x fun xs=>Q xs (fun _=>True) A
def soK (x:PV) (Q:Option Int→AS→Prop) (A:AS):Prop:=∃ i,x=.int i∧Q (some i) A
def revK (x:PV) (Q:PV→AS→Prop) (A:AS):Prop:=∃ xs,x=.lst xs∧Q (.lst xs.reverse) A
def extK (x:PV) (Q:List PV→AS→Prop) (A:AS):Prop:=∃ ys,(x=.lst ys∨x=.tup ys)∧Q ys A
def intK (x:PV) (Q:Int→AS→Prop) (A:AS):Prop:=∃ i,x=.int i∧Q i A
def callS (T:Tr) (xs:List PV) (Q:PV→AS→Prop) (A:AS):Prop:=∃ st,A.S=some st∧T xs st fun r st'=>Q r { A with S:=some st' }
def runT (T:PS1) (st:SSt) (Q:PV→AS→Prop) (B:Addr→Prop) (rho:List (Option Sl)):Prop:=T st fun r st'=>Q r ⟨B,rho,some st'⟩
def dRaw (m:Int) (st:SSt) (Q:PV→AS→Prop) (B:Addr→Prop) (rho:List (Option Sl)):Prop:=st.n≤100000∧0<m∧m<2 ^ 200∧∀ r:Int,0≤r→r<m→Q (.int r) ⟨B,rho,some { st with n:=st.n+1 }⟩
def rtS (P:PV→SSt→Prop) (r:PV) (A:AS):Prop:=∃ st,A.S=some st∧P r st
section
variable {B:Addr→Prop}{rho:List (Option Sl)}{S:Option SSt}{E:UEnds}{u w:US}{t t2:UT}{ue ue2 ue3:UE}{ua:UA}{i j k n:Nat}{QV:PV→AS→Prop}{QT:Bool→AS→Prop}{QA:List PV→AS→Prop}{QG:AS→Prop}
 {QI:List PV→(AS→Prop)→AS→Prop}{QO:Option Int→AS→Prop}{G G':G2}{g1:G1}{ug:UG}{ugs:UGs}{ui:UI}{uo uo2:UO}{A:AS}{x y:PV}{xs:List PV}{a:Addr}{oc:OC}{ix:List Nat}{st:SSt}{nx:AS→Prop}{kvs:List (PV×PV)}{R:Rel}{T:Tr}{m:Int}
theorem uNext_c:uNext E ⟨B,rho,S⟩=E.nx ⟨B,rho,S⟩:=rfl
theorem uSeq_c:uSeq u w E ⟨B,rho,S⟩=u { E with nx:=fun A1=>w E A1 } ⟨B,rho,S⟩:=rfl
theorem uIf_c:uIf t u w E ⟨B,rho,S⟩=t ⟨B,rho,S⟩ fun k A1=>cif k (u E) (w E) A1:=rfl
theorem uSet_c:uSet i ue E ⟨B,rho,S⟩=ue ⟨B,rho,S⟩ fun r A1=>E.nx (put A1 i (.val r)):=rfl
theorem uOwn_c:uOwn i ue E ⟨B,rho,S⟩=ue ⟨B,rho,S⟩ fun r A1=>ownC E.nx r A1 i:=rfl
theorem uDrop_c:uDrop ue E ⟨B,rho,S⟩=ue ⟨B,rho,S⟩ fun _ A1=>E.nx A1:=rfl
theorem uRet_c:uRet ue E ⟨B,rho,S⟩=ue ⟨B,rho,S⟩ fun r A1=>E.rt r A1:=rfl
theorem uRetF_c:uRetF ue E ⟨B,rho,S⟩=ue ⟨B,rho,S⟩ fun r A1=>E.rf r A1:=rfl
theorem uRetO_c:uRetO i E ⟨B,rho,S⟩=retO rho[i]? i ⟨B,rho,S⟩ E.rf:=rfl
theorem zfv:uNever E ⟨B,rho,S⟩=False:=rfl
theorem put_c {s:Sl}:put ⟨B,rho,S⟩ i s=⟨B,rho.set i (some s),S⟩:=rfl
theorem frz_c:frz ⟨B,rho,S⟩ i oc=⟨B,rho.set i (some (.val oc.pv)),S⟩:=rfl
theorem forget_c:forget ⟨B,rho,S⟩ i=⟨B,rho.set i none,S⟩:=rfl
theorem pv_l:OC.pv (.lst xs)=.lst xs:=rfl
theorem pv_d:OC.pv (.dic kvs)=.dic kvs:=rfl
theorem uVar_c:uVar i ⟨B,rho,S⟩ QV=varS rho[i]? i ⟨B,rho,S⟩ QV:=rfl
theorem varS_v:varS (some (some (.val x))) i A QV=QV x A:=rfl
theorem varS_o:varS (some (some (.own a (.lst xs)))) i A QV=QV (.lst xs) (frz A i (.lst xs)):=rfl
theorem varS_o2:varS (some (some (.own a (.dic kvs)))) i A QV=QV (.dic kvs) (frz A i (.dic kvs)):=rfl
theorem uPk_c:uPk i ⟨B,rho,S⟩ QV=pkS rho[i]? ⟨B,rho,S⟩ QV:=rfl
theorem pkS_v:pkS (some (some (.val x))) A QV=QV x A:=rfl
theorem pkS_o:pkS (some (some (.own a (.lst xs)))) A QV=QV (.lst xs) A:=rfl
theorem pkS_o2:pkS (some (some (.own a (.dic kvs)))) A QV=QV (.dic kvs) A:=rfl
theorem pkS_p:pkS (some (some (.peek a (.lst xs)))) A QV=QV (.lst xs) A:=rfl
theorem pkS_p2:pkS (some (some (.peek a (.dic kvs)))) A QV=QV (.dic kvs) A:=rfl
theorem uC_c:uC x ⟨B,rho,S⟩ QV=QV x ⟨B,rho,S⟩:=rfl
theorem uNil_c:uNil ⟨B,rho,S⟩ QA=QA [] ⟨B,rho,S⟩:=rfl
theorem uCons_c:uCons ue ua ⟨B,rho,S⟩ QA=ue ⟨B,rho,S⟩ fun x A1=>ua A1 fun xs A2=>QA (x::xs) A2:=rfl
theorem uTup_c:uTup ua ⟨B,rho,S⟩ QV=ua ⟨B,rho,S⟩ fun xs A1=>xs.length≤1000∧QV (.tup xs) A1:=rfl
theorem uLst_c:uLst ua ⟨B,rho,S⟩ QV=ua ⟨B,rho,S⟩ fun xs A1=>xs.length≤1000∧QV (.lst xs) A1:=rfl
theorem u2_c:u2 G ue ue2 ⟨B,rho,S⟩ QV=ue ⟨B,rho,S⟩ fun x A1=>ue2 A1 fun y A2=>A2.rho=A1.rho∧ex1 (fun z=>G x y z) QV A2:=rfl
theorem u2t_c:u2t G ue ue2 ⟨B,rho,S⟩ QT=ue ⟨B,rho,S⟩ fun x A1=>ue2 A1 fun y A2=>A2.rho=A1.rho∧ex1 (fun z=>G x y (.bl z)) QT A2:=rfl
theorem uAnd_c:uAnd t t2 ⟨B,rho,S⟩ QT=t ⟨B,rho,S⟩ fun c A1=>cif c (fun A=>t2 A QT) (fun A=>QT false A) A1:=rfl
theorem uOr_c:uOr t t2 ⟨B,rho,S⟩ QT=t ⟨B,rho,S⟩ fun c A1=>cif c (fun A=>QT true A) (fun A=>t2 A QT) A1:=rfl
theorem uNot_c:uNot t ⟨B,rho,S⟩ QT=t ⟨B,rho,S⟩ fun c A1=>QT (!c) A1:=rfl
theorem uAndV_c:uAndV ue ue2 ⟨B,rho,S⟩ QV=ue ⟨B,rho,S⟩ fun x A1=>ex1 (fun c=>x=.bl c) (fun c A=>cif c (fun A=>ue2 A QV) (fun A=>QV (.bl false) A) A) A1:=rfl
theorem uNotV_c:uNotV ue ⟨B,rho,S⟩ QV=ue ⟨B,rho,S⟩ fun x A1=>ex1 (fun c=>x=.bl c) (fun c A=>QV (.bl (!c)) A) A1:=rfl
theorem uIfE_c:uIfE t ue ue2 ⟨B,rho,S⟩ QV=t ⟨B,rho,S⟩ fun c A1=>cif c (fun A=>ue A QV) (fun A=>ue2 A QV) A1:=rfl
theorem uTru_c:uTru ue ⟨B,rho,S⟩ QT=ue ⟨B,rho,S⟩ fun x A1=>ex1 (fun c=>ptru x=some c) QT A1:=rfl
theorem uInst_c {ty:Ty}:uInst ty ue ⟨B,rho,S⟩ QV=ue ⟨B,rho,S⟩ fun x A1=>ex1 (fun c=>isTy ty x=some c) (fun c A=>QV (.bl c) A) A1:=rfl
theorem u1_c:u1 g1 ue ⟨B,rho,S⟩ QV=ue ⟨B,rho,S⟩ fun x A1=>ex1 (fun z=>g1 x z) QV A1:=rfl
theorem gN_c:gN i x ⟨B,rho,S⟩ QG=QG (put ⟨B,rho,S⟩ i (.val x)):=rfl
theorem gs0_n:gs0 [] ⟨B,rho,S⟩ QG=QG ⟨B,rho,S⟩:=by simp [gs0]
theorem uIt_c:uIt ue ⟨B,rho,S⟩ QI=ue ⟨B,rho,S⟩ fun x A1=>itK x QI A1:=rfl
theorem uItN_c:uItN i ⟨B,rho,S⟩ QI=itS rho[i]? i ⟨B,rho,S⟩ QI:=rfl
theorem itS_v:itS (some (some (.val x))) i A QI=itK x QI A:=rfl
theorem itK_l:itK (.lst xs) QI A=QI xs (fun _=>True) A:=rfl
theorem itK_t:itK (.tup xs) QI A=QI xs (fun _=>True) A:=rfl
theorem itK_s {z:Str}:itK (.str z) QI A=(z.cps.all (·<128)=true∧QI (signs z) (fun _=>True) A):=rfl
theorem itS_o:itS (some (some (.own a (.lst xs)))) i A QI=QI xs (fun A2=>A2.rho[i]?=some (some (.own a (.lst xs)))) A:=rfl
theorem itS_p:itS (some (some (.peek a (.lst xs)))) i A QI=QI xs (fun A2=>A2.rho[i]?=some (some (.peek a (.lst xs)))) A:=rfl
theorem intK_i {F:Int→AS→Prop}:intK (.int m) F A=F m A:=by
 unfold intK
 exact propext ⟨fun⟨_,e,h⟩=>by cases e;exact h,fun h=>⟨_,rfl,h⟩⟩
theorem uRng_c:uRng ue ⟨B,rho,S⟩ QI=ue ⟨B,rho,S⟩ fun x A1=>intK x (fun n A=>n≤1000000000 ∧ -1000000000≤n∧QI ((List.range n.toNat).map fun(k:Nat)=>PV.int k) (fun _=>True) A) A1:=rfl
theorem uFor_c:uFor ui ug u E ⟨B,rho,S⟩=ui ⟨B,rho,S⟩ fun xs C A1=>forB xs C A1 ug u E:=rfl
theorem uComp_c:uComp k ix ui ug t ue ⟨B,rho,S⟩ QV=ui ⟨B,rho,S⟩ fun xs _ A1=>compB k ix xs A1 ug t ue QV:=rfl
theorem uYes_c:uYes ⟨B,rho,S⟩ QT=QT true ⟨B,rho,S⟩:=rfl
theorem uCall_c:uCall R ua ⟨B,rho,S⟩ QV=ua ⟨B,rho,S⟩ fun xs A1=>ex1 (fun r=>R xs r) QV A1:=rfl
theorem zfw:uCallS T ua ⟨B,rho,S⟩ QV=ua ⟨B,rho,S⟩ fun xs A1=>callS T xs QV A1:=rfl
theorem lstO_o {F:Addr→List PV→AS→Prop}:lstO (some (some (.own a (.lst xs)))) F A=F a xs A:=rfl
theorem dicO_o {F:Addr→List (PV×PV)→AS→Prop}:dicO (some (some (.own a (.dic kvs)))) F A=F a kvs A:=rfl
theorem uApp_c:uApp i ue ⟨B,rho,S⟩ QV=lstO rho[i]? (fun a _ A=>ue A fun r A1=>ex1 (fun xs=>A1.rho[i]?=some (some (.own a (.lst xs)))) (fun xs A=>xs.length≤1000000∧QV .non (put A i (.own a (.lst (xs++[r]))))) A1) ⟨B,rho,S⟩:=by
 first
 | (unfold uApp lstO;rfl)
 | (unfold uApp lstO;dsimp only;generalize rho[i]?=s;rcases s with _ | _ | s<;>first | rfl | (cases s<;>first | rfl | (rename_i c;cases c<;>rfl)))
theorem uRevM_c:uRevM i ⟨B,rho,S⟩ QV=lstO rho[i]? (fun a xs A=>QV .non (put A i (.own a (.lst xs.reverse)))) ⟨B,rho,S⟩:=by
 first
 | (unfold uRevM lstO;rfl)
 | (unfold uRevM lstO;dsimp only;generalize rho[i]?=s;rcases s with _ | _ | s<;>first | rfl | (cases s<;>first | rfl | (rename_i c;cases c<;>rfl)))
theorem uExt_c:uExt i ue ⟨B,rho,S⟩ QV=lstO rho[i]? (fun a _ A=>ue A fun r A1=>ex1 (fun xs=>A1.rho[i]?=some (some (.own a (.lst xs)))) (fun xs A=>extK r (fun ys A=>xs.length+ys.length≤1000000∧QV .non (put A i (.own a (.lst (xs++ys))))) A) A1) ⟨B,rho,S⟩:=by
 unfold uExt lstO extK ex1;dsimp only;generalize rho[i]?=s;rcases s with _ | _ | s<;>first | rfl | (cases s<;>first | rfl | skip)
 rename_i c
 cases c<;>first | rfl | skip
 refine congrArg (ue ⟨B,rho,S⟩) (funext fun r=>funext fun A1=>?_)
 exact propext ⟨fun⟨xs,ys,h1,h2,h3⟩=>⟨xs,h1,ys,h2,h3⟩,fun⟨xs,h1,ys,h2,h3⟩=>⟨xs,ys,h1,h2,h3⟩⟩
theorem zec:uRemove i ue ⟨B,rho,S⟩ QV=lstO rho[i]? (fun a _ A=>ue A fun r A1=>ex1 (fun xs=>A1.rho[i]?=some (some (.own a (.lst xs)))) (fun xs A=>∃ j,(∃ n,n≤80∧Dp n r∧∀ x∈xs,Dp n x)∧(∃ p,xs[j]?=some p∧peq p r=true)∧(∀ (m:Nat) p,m<j→xs[m]?=some p→peq p r=false)∧QV .non (put A i (.own a (.lst (xs.eraseIdx j))))) A1) ⟨B,rho,S⟩:=by
 unfold uRemove lstO ex1;dsimp only;generalize rho[i]?=s;rcases s with _ | _ | s<;>first | rfl | (cases s<;>first | rfl | skip)
 rename_i c
 cases c<;>first | rfl | skip
 refine congrArg (ue ⟨B,rho,S⟩) (funext fun r=>funext fun A1=>?_)
 exact propext ⟨fun⟨xs,j,h1,h2⟩=>⟨xs,h1,j,h2⟩,fun⟨xs,h1,j,h2⟩=>⟨xs,j,h1,h2⟩⟩
theorem ownC_l:ownC nx (.lst xs) A i=∀ p,nx (put A i (.own p (.lst xs))):=by
 unfold ownC
 refine propext ⟨fun⟨c,e,h⟩=>?_,fun h=>⟨.lst xs,rfl,h⟩⟩
 cases c with
 | lst ys=>cases e;exact h
 | dic _=>cases e
 | ins _ _ _=>cases e
theorem ownC_d:ownC nx (.dic kvs) A i=∀ p,nx (put A i (.own p (.dic kvs))):=by
 unfold ownC
 refine propext ⟨fun⟨c,e,h⟩=>?_,fun h=>⟨.dic kvs,rfl,h⟩⟩
 cases c with
 | dic ys=>cases e;exact h
 | lst _=>cases e
 | ins _ _ _=>cases e
theorem retO_o:retO (some (some (.own a (.lst xs)))) i A QV=QV (.lst xs) (forget A i):=rfl
theorem retO_o2:retO (some (some (.own a (.dic kvs)))) i A QV=QV (.dic kvs) (forget A i):=rfl
theorem uNo_c:uNo ⟨B,rho,S⟩ QO=QO none ⟨B,rho,S⟩:=rfl
theorem uSo_c:uSo ue ⟨B,rho,S⟩ QO=ue ⟨B,rho,S⟩ fun x A1=>soK x QO A1:=rfl
theorem soK_i:soK (.int m) QO A=QO (some m) A:=by
 unfold soK
 exact propext ⟨fun⟨_,e,h⟩=>by cases e;exact h,fun h=>⟨_,rfl,h⟩⟩
theorem uSl_c {g:PV→Option Int→Option Int→PV→Prop}:uSl g ue uo uo2 ⟨B,rho,S⟩ QV=ue ⟨B,rho,S⟩ fun x A1=>uo A1 fun l A2=>uo2 A2 fun h A3=>A3.rho=A1.rho∧ex1 (fun z=>g x l h z) QV A3:=rfl
theorem revK_l:revK (.lst xs) QV A=QV (.lst xs.reverse) A:=by
 unfold revK
 exact propext ⟨fun⟨_,e,h⟩=>by cases e;exact h,fun h=>⟨_,rfl,h⟩⟩
theorem extK_l {F:List PV→AS→Prop}:extK (.lst xs) F A=F xs A:=by
 unfold extK
 exact propext ⟨fun⟨_,e,h⟩=>by rcases e with e | e<;>cases e;exact h,fun h=>⟨_,.inl rfl,h⟩⟩
theorem extK_t {F:List PV→AS→Prop}:extK (.tup xs) F A=F xs A:=by
 unfold extK
 exact propext ⟨fun⟨_,e,h⟩=>by rcases e with e | e<;>cases e;exact h,fun h=>⟨_,.inr rfl,h⟩⟩
theorem uNeg_c:uNeg ue ⟨B,rho,S⟩ QV=ue ⟨B,rho,S⟩ fun x A1=>intK x (fun i A=>QV (.int (-i)) A) A1:=rfl
theorem uChnT_c:uChnT G G' ue ue2 ue3 ⟨B,rho,S⟩ QT=ue ⟨B,rho,S⟩ fun x A1=>ue2 A1 fun y A2=>A2.rho=A1.rho∧ex1 (fun z=>G x y (.bl z)) (fun z A=>cif z (fun A=>ue3 A fun w A3=>A3.rho=A.rho∧ex1 (fun z'=>G' y w (.bl z')) QT A3) (fun A=>QT false A) A) A2:=rfl
theorem endsV_e {r:PV}:endsV false r=⟨fun _=>r=.non,fun r' _=>r'=r,fun _ _=>False,fun _=>False,fun _=>False⟩:=by simp [endsV]
theorem endsV_f {r:PV}:endsV true r=⟨fun _=>False,fun _ _=>False,fun r' _=>r'=r,fun _=>False,fun _=>False⟩:=by simp [endsV]
theorem endsS_e {P:PV→SSt→Prop}:endsS false P=⟨fun A=>rtS P .non A,fun r A=>rtS P r A,fun _ _=>False,fun _=>False,fun _=>False⟩:=by simp [endsS,rtS]
theorem endsS_f {P:PV→SSt→Prop}:endsS true P=⟨fun _=>False,fun _ _=>False,fun r A=>rtS P r A,fun _=>False,fun _=>False⟩:=by simp [endsS,rtS]
theorem rtS_c {P:PV→SSt→Prop}:rtS P x ⟨B,rho,some st⟩=P x st:=by
 unfold rtS
 exact propext ⟨fun⟨_,e,h⟩=>by cases e;exact h,fun h=>⟨_,rfl,h⟩⟩
theorem take_c:runT (zcr (.int m)) st QV B rho=dRaw m st QV B rho:=by
 unfold runT zcr dRaw
 exact propext ⟨fun⟨_,e,h⟩=>by cases e;exact h,fun h=>⟨_,rfl,h⟩⟩
end
section
variable {P1:PV→PV→Prop}{P2:PV→PV→PV→Prop}{P3:PV→PV→PV→PV→Prop}{P4:PV→PV→PV→PV→PV→Prop}{a b c d r:PV}{st:SSt}{Q:PV→SSt→Prop}{T1:PS1}{T2:PV→PS1}{T3:PV→PV→PS1}{T4:PV→PV→PV→PS1}{α:Type}{l:List α}{x y z w v:α}
theorem rl1:Rl1 P1 [a] r=P1 a r:=by simp [Rl1]
theorem rl2:Rl2 P2 [a,b] r=P2 a b r:=by
 unfold Rl2
 exact propext ⟨fun⟨_,_,e,h⟩=>by cases e;exact h,fun h=>⟨_,_,rfl,h⟩⟩
theorem rl3:Rl3 P3 [a,b,c] r=P3 a b c r:=by
 unfold Rl3
 exact propext ⟨fun⟨_,_,_,e,h⟩=>by cases e;exact h,fun h=>⟨_,_,_,rfl,h⟩⟩
theorem rl4:Rl4 P4 [a,b,c,d] r=P4 a b c d r:=by
 unfold Rl4
 exact propext ⟨fun⟨_,_,_,_,e,h⟩=>by cases e;exact h,fun h=>⟨_,_,_,_,rfl,h⟩⟩
end
end L2
namespace L2
open PySem
section
variable {α:Type}{l:List α}{x y u v w:α}
theorem zck {i:Int} (h0:0≤i) (e:l[i.toNat]?=some x):atI l i=some x:=by
 have hl:i.toNat<l.length:=(List.getElem?_eq_some_iff.mp e).1
 unfold atI ixN
 rw[if_pos h0,if_pos (by omega)]
 exact e
theorem at_0:atI (x::l) 0=some x:=zck (by decide) rfl
theorem at_1:atI (x::y::l) 1=some y:=zck (by decide) rfl
theorem at_2:atI (x::y::u::l) 2=some u:=zck (by decide) rfl
theorem at_3:atI (x::y::u::v::l) 3=some v:=zck (by decide) rfl
theorem at_4:atI (x::y::u::v::w::l) 4=some w:=zck (by decide) rfl
end
section
variable {n:Bool}{s t:Str}{i j:Int}{z:PV}{l:List Str}
theorem gEq_s:gEq n (.str s) (.str t) z=(z=.bl (n^^(s==t))):=by
 unfold gEq
 exact propext ⟨fun h=>h.2,fun h=>⟨⟨0,by decide,zeC _ _,zeC _ _⟩,h⟩⟩
theorem gEq_i:gEq n (.int i) (.int j) z=(z=.bl (n^^(i==j))):=by
 unfold gEq
 exact propext ⟨fun h=>h.2,fun h=>⟨⟨0,by decide,dp_int _ _,dp_int _ _⟩,h⟩⟩
theorem dps (k:Nat){l:List Str}:∀ p∈l.map PV.str,Dp k p:=fun p hp=>by obtain⟨q,_,rfl⟩:=List.mem_map.mp hp;exact zeC _ _
theorem gInA_ls:gInA n (.str s) (.lst (l.map PV.str)) z=(z=.bl (n^^l.contains s)):=by
 rw[gInA_l,pin_str]
 exact propext ⟨fun h=>h.2.2,fun h=>⟨oc_str s,⟨0,by decide,zeC _ _,dps 0⟩,h⟩⟩
theorem gInA_ts:gInA n (.str s) (.tup (l.map PV.str)) z=(z=.bl (n^^l.contains s)):=by
 rw[gInA_t,pin_str]
 exact propext ⟨fun h=>h.2.2,fun h=>⟨oc_str s,⟨0,by decide,zeC _ _,dps 0⟩,h⟩⟩
theorem gInA_lm {α:Type}{l:List α}{f:α→Str}:gInA n (.str s) (.lst (l.map fun x=>PV.str (f x))) z=(z=.bl (n^^(l.map f).contains s)):=by
 rw[← gInA_ls,List.map_map];rfl
theorem gInA_tm {α:Type}{l:List α}{f:α→Str}:gInA n (.str s) (.tup (l.map fun x=>PV.str (f x))) z=(z=.bl (n^^(l.map f).contains s)):=by
 rw[← gInA_ts,List.map_map];rfl
end
theorem zfo {α:Type}{k:Nat}{ix:List Nat}{A1:AS}{g:UG}{t:UT}{ue:UE}{Q:PV→AS→Prop} (l:List α) (e F:α→PV) (p:α→Bool) (few:l.length≤1000000) (each:∀ B x,x∈l→∀ (Rs:PV→AS→Prop) (Rn:AS→Prop),(∀ A4,p x=true→Kp k ix A1.rho A4→A4.S=A1.S→Rs (F x) A4)→(∀ A4,p x=false→Kp k ix A1.rho A4→A4.S=A1.S→Rn A4) →
  g (e x) ⟨B,inn k ix A1.rho,A1.S⟩ fun A2=>t A2 fun b A3=>cif b (fun A=>ue A Rs) Rn A3) (fin:Q (.lst ((l.filter p).map F)) A1):compB k ix (l.map e) A1 g t ue Q:=comp_f l e F p few each fin
theorem pk_s {s:Str}:pk (.str s)=some (.inr s):=rfl
theorem pk_i {i:Int}:pk (.int i)=some (.inl i):=rfl
end L2
namespace L2
open PySem
section
variable {d p:Addr}{n:Nat}{b:Bs}{Q:PV→AS→Prop}{B:Addr→Prop}{rho:List (Option Sl)}{T1:PS1}{T2:PV→PS1}{T3:PV→PV→PS1}{T4:PV→PV→PV→PS1}{x y z:PV}{m:Int}
theorem zdY {T:Tr}{xs:List PV}{st:SSt}:callS T xs Q ⟨B,rho,some st⟩=T xs st fun r st'=>Q r ⟨B,rho,some st'⟩:=by
 unfold callS
 exact propext ⟨fun⟨_,e,h⟩=>by cases e;exact h,fun h=>⟨_,rfl,h⟩⟩
theorem tr1c:callS (Tr1 T1) [.raw (.ref d)] Q ⟨B,rho,some ⟨d,p,n,b⟩⟩=runT T1 ⟨d,p,n,b⟩ Q B rho:=by
 rw[zdY]
 exact propext ⟨fun⟨_,h⟩=>h,fun h=>⟨rfl,h⟩⟩
theorem tr2c:callS (Tr2 T2) [.raw (.ref d),x] Q ⟨B,rho,some ⟨d,p,n,b⟩⟩=runT (T2 x) ⟨d,p,n,b⟩ Q B rho:=by
 rw[zdY]
 exact propext ⟨fun⟨_,e,h⟩=>by cases e;exact h,fun h=>⟨_,rfl,h⟩⟩
theorem tr3c:callS (Tr3 T3) [.raw (.ref d),x,y] Q ⟨B,rho,some ⟨d,p,n,b⟩⟩=runT (T3 x y) ⟨d,p,n,b⟩ Q B rho:=by
 rw[zdY]
 exact propext ⟨fun⟨_,_,e,h⟩=>by cases e;exact h,fun h=>⟨_,_,rfl,h⟩⟩
theorem tr4c:callS (Tr4 T4) [.raw (.ref d),x,y,z] Q ⟨B,rho,some ⟨d,p,n,b⟩⟩=runT (T4 x y z) ⟨d,p,n,b⟩ Q B rho:=by
 rw[zdY]
 exact propext ⟨fun⟨_,_,_,e,h⟩=>by cases e;exact h,fun h=>⟨_,_,_,rfl,h⟩⟩
theorem draw (h1:n≤100000) (h2:0<m) (h3:m<2 ^ 200) (h4:∀ r:Int,0≤r→r<m→Q (.int r) ⟨B,rho,some ⟨d,p,n+1,b⟩⟩):dRaw m ⟨d,p,n,b⟩ Q B rho:=⟨h1,h2,h3,h4⟩
end
section
variable {A1:AS}{g:UG}{C:AS→Prop}{ub:US}{E:UEnds}{t:UT}{ue:UE}{k:Nat}{ix:List Nat}{Q:PV→AS→Prop}
theorem for_r (N:Nat) (I:Nat→AS→Prop) (h0:I 0 A1) (hC:∀ i A2,I i A2→C A2)
  (step:∀ i A2,i<N→I i A2→g (.int i) A2 fun A3=>ub { E with nx:=I (i+1),ct:=I (i+1),bk:=E.nx } A3) (fin:∀ A2,I N A2→E.nx A2):forB ((List.range N).map fun(k:Nat)=>PV.int k) C A1 g ub E:=by
 refine for_m (List.range N) (fun(k:Nat)=>PV.int k) (fun d A=>I d.length A) h0 (fun d A h=>hC _ A h) ?_ ?_
 ·intro d x r A2 e hI
  have hx:x=d.length∧d.length<N:=by
   have h1:(List.range N)[d.length]?=some x:=by rw[e];simp
   obtain⟨h2,h3⟩:=List.getElem?_eq_some_iff.mp h1
   rw[List.length_range] at h2
   rw[List.getElem_range] at h3
   exact⟨h3.symm,h2⟩
  rw[hx.1]
  rw[List.length_append,List.length_singleton]
  exact step _ A2 hx.2 hI
 ·intro A2 h
  rw[List.length_range] at h
  exact fin A2 h
end
theorem cut_from {xs:List PV}{i:Int} (h0:0≤i) (h1:i≤xs.length):cutP xs (some i) none=xs.drop i.toNat:=by
 unfold cutP
 have e:HT.sIx xs.length 0 (some i)=i.toNat:=by
  show(if i<0 then _ else min i.toNat xs.length)=_
  rw[if_neg (by omega)];omega
 rw[e,HT.sIx_none,List.take_of_length_le (by rw[List.length_drop];exact Nat.le_refl _)]
theorem cut_to {xs:List PV}{i:Int} (h0:0≤i) (h1:i≤xs.length):cutP xs none (some i)=xs.take i.toNat:=by
 unfold cutP
 have e:HT.sIx xs.length xs.length (some i)=i.toNat:=by
  show(if i<0 then _ else min i.toNat xs.length)=_
  rw[if_neg (by omega)];omega
 rw[e,HT.sIx_none,Nat.sub_zero,List.drop_zero]
def Nx (st:SSt) (c:Nat) (st':SSt):Prop:=∃ n,n≤st.n+c∧st'=⟨st.d,st.a,n,st.b⟩
end L2
namespace L2
open PySem
def endsL:UEnds:=⟨fun _=>False,fun r _=>r=.bl true,fun r _=>r=.bl true,fun _=>False,fun _=>False⟩
theorem scrF_of {K:PySem.W.Frag}{H:Hp}{a:Addr}{ns:List Int} (hO:Only H) (hS:SqL K H a (ns.map V.int)) (hl:ns.length≤63):ScrF K H a:=by
 rcases hS with (h | h) | h
 ·rcases hO a with z | ⟨o,xs,z⟩<;>(rw[h] at z;cases z)
 ·exact⟨ns,hl,.inl h⟩
 ·exact⟨ns,hl,.inr h⟩
theorem law_rest {K:PySem.W.Frag}{u:US}{H H1:Hp}{a d:Addr}{D:Bs}{n0:Nat}{ns:List Int} (hO:Only H) (hS:SqL K H a (ns.map V.int)) (hl:ns.length≤63) (S1:StAt H1 d a n0 D) (s1:Same H H1) (m:Nat)
  (q:u endsL ⟨fun b=>b=d,some (.val (.raw (.ref a)))::some (.val (.raw (.ref d)))::List.replicate m none,some ⟨d,a,n0,D⟩⟩){Q:VK} (hQ:∀ H',Q (.bl true) H') :
  liftS K u { nx:=fun _ H'=>Q .non H',rt:=Q } (some (.ref a)::some (.ref d)::List.replicate m none) H1:=by
 obtain⟨kvs,hd⟩:=S1.dk
 have nslot:∀ (i:Nat) (s:Sl),(some (Sl.val (.raw (.ref a)))::some (.val (.raw (.ref d)))::List.replicate m none:List (Option Sl))[i]?=some (some s)→(i=0∧s=.val (.raw (.ref a)))∨(i=1∧s=.val (.raw (.ref d))):=by
  intro i s h
  rcases i with _ | _ | i
  ·cases h;exact .inl ⟨rfl,rfl⟩
  ·cases h;exact .inr ⟨rfl,rfl⟩
  ·rw[List.getElem?_cons_succ,List.getElem?_cons_succ,List.getElem?_replicate] at h
   split at h<;>cases h
 refine⟨_,endsL,⟨?_,?_,?_,?_,?_,?_⟩,q,?_⟩
 ·simp
 ·intro i s h
  rcases nslot i s h with ⟨rfl,rfl⟩ | ⟨rfl,rfl⟩
  ·exact⟨_,rfl,.raw a⟩
  ·exact⟨_,rfl,.raw d⟩
 ·rintro b rfl
  rw[hd];intro z;cases z
 ·intro i j b c c' h1 h2
  rcases nslot _ _ h1 with ⟨_,z⟩ | ⟨_,z⟩<;>cases z
 ·rintro st h
  cases h
  exact⟨rfl,S1,(scrF_of hO hS hl).keep fun o=>s1 _ o⟩
 ·intro i b c st h1 h2
  rcases nslot _ _ h1 with ⟨_,z⟩ | ⟨_,z⟩<;>cases z
 ·refine⟨fun A1 σ1 H2 p=>p.elim,?_,?_,?_,fun A1 σ1 H2 p=>p.elim,fun A1 σ1 H2 p=>p.elim⟩
  ·rintro r A1 σ1 v H2 rfl R1 S2 rv
   cases rv
   exact hQ _
  ·rintro r A1 σ1 v H0 H2 rfl R1 S2 ⟨p,c,e,_⟩
   cases c<;>cases e
  ·intro i b c A1 σ1 H2 hi hld p R1 S2
   have p':c.pv=.bl true:=p
   cases c<;>cases p'
end L2
set_option maxHeartbeats 1000000
namespace L2
open PySem PySem.Spec PyProof.Rows
section
variable {X:Cx}{K:PySem.W.Frag}{a b e:Expr}{ua ub ue:UE}{p pos apos cpos npos:Pos}{k:Nat}
def r22 (r:List V→Hp→VK→Prop):R2:=fun x y H Q=>r [x,y] H Q
theorem e_b2 {id:String}{x:Str}{r:List V→Hp→VK→Prop}{G:G2} (hc:CallR X (.builtin id) r) (br:Br2 K (r22 r) G) (hv:bootBuiltins x=some (.builtin id)) (hm:X.mg x=none) (ha:PE X a (liftQ K ua)) (hb:PE X b (liftQ K ub)) (hg:Gl X x:=by rfl) (hn:x≠"__name__":=by decide) (hd:(x==("__debug__":Str))=false:=by decide)
  (hs:starEach [a,b] X.env=[(false,eval a X.env),(false,eval b X.env)]:=by rfl) (hs2:starEach [b] X.env=[(false,eval b X.env)]:=by rfl):PE X (.Call (.Name x p) [a,b] [] pos) (liftV K (u2 G ua ub)):=
 (zaw hc hg hm hv (zad ha (zad hb pa_nil hs2) (by rw[hs,hs2])) hn hd (by rw[hs,hs2]) (hpl:=by rw[hs2];rfl)).mono (op2 (r:=r22 r) br)
def gMax:G2:=gI0 fun i j=>.int (if j > i then j else i)
theorem e_max (hc:X.calm=true) (hm:X.mg "max"=none) (ha:PE X a (liftQ K ua)) (hb:PE X b (liftQ K ub)) (hg:Gl X "max":=by rfl)
  (hs:starEach [a,b] X.env=[(false,eval a X.env),(false,eval b X.env)]:=by rfl) (hs2:starEach [b] X.env=[(false,eval b X.env)]:=by rfl):PE X (.Call (.Name "max" p) [a,b] [] pos) (liftV K (u2 gMax ua ub)):=by
 refine e_b2 (call_max2 hc) ?_ (by with_unfolding_all rfl) hm ha hb hg (hs:=hs) (hs2:=hs2)
 intro H A σ x y v w z Q R q1 q2 g c
 cases x<;>cases y<;>try exact(show False from g).elim
 cases (show z=_ from g)
 cases q1.int;cases q2.int
 exact⟨_,_,rfl,c _ H (Same.refl H) (.int _)⟩
def uPopAt (i:Nat) (ue:UE):UE:=fun A Q=>match A.rho[i]? with
 | some (some (.own a (.lst _)))=>ue A fun r A1=>∃ xs j y,A1.rho[i]?=some (some (.own a (.lst xs)))∧r=.int (j:Nat)∧j≤1000000∧xs[j]?=some y∧Q y (put A1 i (.own a (.lst (xs.eraseIdx j))))
 | _=>False
theorem e_popAt (hK:X.K=K) (i:Nat){x:Str} (he:PE X e (liftV K ue)) (hN:X.N[i]?=some x:=by rfl) (hv:Vis X.env.scope x:=by first | exact Or.inl rfl | exact Or.inr (Or.inl rfl) | exact Or.inr (Or.inr rfl)) (hd:(x==("__debug__":Str))=false:=by decide) (hcd:(x==("__classdict__":Str))=false:=by decide)
  (hbase:attributeBase (.Name x npos) "pop" X.env (eval (.Name x npos) X.env)=eval (.Name x npos) X.env:=by rfl)
  (hfew:((backTo cpos (starEach [e] X.env)).all (fun x=>!x.1)&&(backToKw cpos (keywordEach [] X.env)).all (fun x=>x.1.isSome)&&decide ([e].length+([]:List Keyword).length+(if ([]:List Keyword).isEmpty then 0 else 1)<30))=true:=by rfl)
  (hline:(apos.endLine==cpos.line)=true:=by rfl) (hs:starEach [e] X.env=[(false,eval e X.env)]:=by rfl):PE X (.Call (.Attribute (.Name x npos) "pop" apos) [e] [] cpos) (liftV K (uPopAt i ue)):=by
 subst hK
 refine(pe_bm PySem.F.plainAttrs_list PySem.F.slot_list_pop PySem.F.type_list_pop mt_popAt (zat hN hv hd hcd) (zad he pa_nil hs) hbase hfew hline hs rfl).mono fun σ H Q ⟨A,P,R,h,c⟩=>?_
 unfold uPopAt at h
 split at h
 ·rename_i a ys hx
  obtain⟨v,ev,rfl,nb,vs,h1,h2⟩:=R.sl i _ hx
  refine⟨_,ev,.inl ⟨rfl,_,SqL.of h1⟩,A,_,R,h,fun r A1 w H1 p R1 S1 rw'=>?_⟩
  obtain⟨xs,j,y,hA,rfl,few,hy,p⟩:=p
  obtain⟨_,_,_,_,us,g1,g2⟩:=R1.sl i _ hA
  cases rw'
  obtain⟨u,hu,ru⟩:=g2.at hy
  have hl:j<us.length:=(List.getElem?_eq_some_iff.mp hu).1
  obtain⟨R2,S2⟩:=R1.turn hA (g2.erase j)
  exact⟨a,us,j,j,u,rfl,rfl,g1,by omega,by omega,seqIndex_of (by omega) (by omega),hu,c _ _ _ _ p R2 (S1.trans S2) (ru.imp (R1.keep S2))⟩
 ·exact h.elim
end
end L2
namespace L2
open PySem PySem.Spec PyProof.Rows
section
variable {X:Cx}{K:PySem.W.Frag}{e:Expr}{ue:UE}{p pos apos cpos npos:Pos}
end
end L2
namespace L2
open PySem
section
variable {B:Addr→Prop}{rho:List (Option Sl)}{S:Option SSt}{A:AS}{i:Nat}{ue:UE}{QV:PV→AS→Prop}{QI:List PV→(AS→Prop)→AS→Prop}{kvs:List (PV×PV)}{xs:List PV}{z:PV}{m n:Int}
theorem gMax_i:gMax (.int m) (.int n) z=(z=.int (if n > m then n else m)):=rfl
theorem uPopAt_c:uPopAt i ue ⟨B,rho,S⟩ QV=lstO rho[i]? (fun a _ A=>ue A fun r A1=>ex1 (fun xs=>A1.rho[i]?=some (some (.own a (.lst xs)))) (fun xs A=>∃ j y,r=.int (j:Nat)∧j≤1000000∧xs[j]?=some y∧QV y (put A i (.own a (.lst (xs.eraseIdx j))))) A1) ⟨B,rho,S⟩:=by
 unfold uPopAt lstO ex1;dsimp only;generalize rho[i]?=s;rcases s with _ | _ | s<;>first | rfl | (cases s<;>first | rfl | skip)
 rename_i c
 cases c<;>first | rfl | skip
 refine congrArg (ue ⟨B,rho,S⟩) (funext fun r=>funext fun A1=>?_)
 exact propext ⟨fun⟨xs,j,y,h1,h2⟩=>⟨xs,h1,j,y,h2⟩,fun⟨xs,h1,j,y,h2⟩=>⟨xs,j,y,h1,h2⟩⟩
end
end L2
namespace L2
open PySem PySem.Spec PyProof.Rows
def CXe (P:Program) (w:World):CXT:=fun outer H s E e s'=>∃ (a C t:Addr) (H':Hp) (B:Heap),e=.ref a∧s'.os=s.os∧AllBare s'.gens∧Un (frs outer) [] H H' s.heap s'.heap∧HOk P w H' s'.heap ∧
 Heap.FlyingW B outer a (.ref C) (.ref t) s'.heap∧(∀ b o,H' b≠none→s'.heap.get? b=some o→B.get? b=some o)∧(∀ b o,s.heap.get? b=some o→H b=none→b∉frs outer→B.get? b=some o) ∧
 (∀ b o,s.heap.get? b=some o→b∉frs outer→∃ o',B.get? b=some o')∧E (.ref a) (some C) H'
theorem funs_hide {h b0:Heap}{l:List Env} (hf:h.FunFrames b0 l):h.FunFrames (PySem.W.hideAll h (frs l)) l:=by
 refine PySem.W.funFrames_hide hf fun env he b hb=>?_
 exact List.mem_filterMap.mpr ⟨env,he,hb⟩
theorem zfF {P:Program}{w:World}{H:Hp}{h:Heap}{a:Addr}{o:HO} (x:ObjOk P w H h a o):∃ ob,h.get? a=some ob:=by
 cases o with
 | lst xs=>obtain⟨_,_,_,_,e⟩:=x;exact⟨_,e⟩
 | tup xs=>obtain⟨_,_,_,_,e,_⟩:=x;exact⟨_,e⟩
 | dK kvs=>obtain⟨_,_,_,_,_,_,_,e,_⟩:=x;exact⟨_,e⟩
 | dT kvs=>obtain⟨_,_,_,_,_,_,_,e,_⟩:=x;exact⟨_,e⟩
 | set S n=>obtain⟨_,_,_,_,e,_⟩:=x;exact⟨_,e⟩
 | ins C dx fs=>obtain⟨_,_,_,e,_⟩:=x;exact⟨_,e⟩
 | own y=>exact x
 | xd fs=>obtain⟨_,⟨_,_,_,e,_⟩,_⟩:=x;exact⟨_,e⟩
 | rng lo hi=>obtain⟨_,_,_,e⟩:=x;exact⟨_,e⟩
 | frz ob u=>obtain⟨e,_⟩:=x;exact⟨_,e⟩
 | tbl ps=>obtain⟨_,e,_⟩:=x;exact⟨_,e⟩
 | cod q=>obtain⟨c,o,vs,t,e,e1,_⟩:=x;cases e;exact⟨_,e1⟩
 | met f y=>exact⟨_,show h.get? a=some _ from x⟩
 | ext φ=>exact x.2.1
section
variable {X:Cx}{pins:List (Addr×Obj)}{σ:St}{H:Hp}{s:Shared}
theorem left_ok {A:Around}{Ex:Value→Shared→Prop}{h':Heap}{e C:Addr}{us:List Value}{E:XK} (I:Inv X pins σ H s) (hs:X.stack=X.env::X.outer) (hfr:A.frames=some X.stack) (hL:X.env.frame=some X.env.locals) (hex:X.ex=[])
  (hm:Heap.MadeExcOf s.heap h' e (.ref C) us) (hE:E (.ref e) (some C) H) :
  wpAny (model X.prog X.w) A (leaving X.env (.ref e)) (fun _ s''=>CXe X.prog X.w X.outer X.H₀ X.s₀ E (.ref e) s'') Ex { s with heap:=h' }:=by
 have fu:=I.stack
 have fu':s.heap.FunFrames (PySem.W.hideAll s.heap (frs X.stack)) X.stack:=funs_hide fu
 have inB:∀ b o,s.heap.get? b=some o→b∉frs X.stack→(PySem.W.hideAll s.heap (frs X.stack)).get? b=some o:=fun b o e n=>PySem.W.hideAll_get _ e n
 refine wpAny_leaves_madeW (base:=PySem.W.hideAll s.heap (frs X.stack)) (h:=s.heap) (outer:=X.outer) (by rw[hfr,hs]) hL (fun b o q=>PySem.W.of_hideAll _ q) (by rw[hs] at fu' ⊢;exact fu') hm fun h'' t fl tu nt sm=>?_
 have st:(PySem.W.hideAll s.heap (frs X.stack)).StaysIn h'':=fl.1
 have sub:∀ b,b∈frs X.stack→b=X.env.locals∨b∈X.fs:=fun b hb=>List.mem_cons.mp (I.stkSub b hb)
 have old:∀ b o,X.s₀.heap.get? b=some o→b∉X.fs→b∉frs X.stack:=fun b o e n hb=>by
  rcases sub b hb with z | z
  ·exact absurd (Nat.lt_of_lt_of_le (Heap.lt_size e) (by rw[z];exact I.ok.above)) (Nat.lt_irrefl _)
  ·exact n z
 have nex:∀ b,b∉X.ex:=fun b z=>by rw[hex] at z;cases z
 have tin:∀ b u,H b=some u→∃ o,s.heap.get? b=some o∧(PySem.W.hideAll s.heap (frs X.stack)).get? b=some o:=fun b u q=>by
  obtain⟨o,e⟩:=zfF (I.hok b u q)
  exact⟨o,e,inB b o e fun z=>by rw[I.stkFree b z] at q;cases q⟩
 have slk:∀ b o,s.heap.get? b=some o→b∈frs X.stack→∃ sl,h''.get? b=some { o with slots:=sl }:=fun b o e hb=>by
  obtain⟨_,o',e',nf⟩:=fu.mem hb
  rw[e] at e';cases e'
  obtain⟨sl,q⟩:=sm b o (hm.keeps b o e) nf
  exact⟨sl,q⟩
 have hok:HOk X.prog X.w H h'':=fun a u q=>(I.hok a u q).stay (fun b v hb e=>by
  have tb:∃ w,H b=some w:=by
   rcases hb with z | z
   ·rw[z];exact⟨u,q⟩
   ·exact⟨_,z⟩
  obtain⟨w,tb⟩:=tb
  obtain⟨o,e1,e2⟩:=tin b w tb
  rw[e] at e1;cases e1
  exact st _ _ e2) (fun _ z=>z) fun _ _ z=>z
 refine⟨e,C,t,H,PySem.W.hideAll s.heap (frs X.stack),rfl,I.os,I.bare,⟨fun b o e n hb hx=>?_,fun b o e n hb hx=>?_,fun b o e n hx=>I.base.free b o e n (nex b),fun b o e hx=>?_,I.base.tups,I.base.frzs,I.base.tbls⟩,hok,fl,fun b o nn e=>?_,fun b o e n hb=>?_,fun b o e hb=>?_,hE⟩
 ·exact st _ _ (inB b o (I.base.keep b o e n hb (nex b)) (old b o e hb))
 ·obtain⟨sl,q⟩:=I.base.slot b o e n hb (nex b)
  by_cases z:b∈frs X.stack
  ·obtain⟨sl2,q2⟩:=slk b _ q z
   exact⟨sl2,q2⟩
  ·exact⟨sl,st _ _ (inB b _ q z)⟩
 ·obtain⟨o',q⟩:=I.base.there b o e (nex b)
  by_cases z:b∈frs X.stack
  ·obtain⟨sl2,q2⟩:=slk b _ q z
   exact⟨_,q2⟩
  ·exact⟨_,st _ _ (inB b _ q z)⟩
 ·cases q:H b with
  | none=>exact absurd q nn
  | some u=>
   obtain⟨o',e1,e2⟩:=tin b u q
   have:=st _ _ e2
   have e':h''.get? b=some o:=e
   rw[e'] at this;cases this
   exact e2
 ·exact inB b o (I.base.keep b o e n hb (nex b)) (old b o e hb)
 ·obtain⟨o',q⟩:=I.base.there b o e (nex b)
  exact⟨o',inB b o' q (old b o e hb)⟩
theorem zdu {x:Str}{C:Addr}{bmB:List Value}{B newId initId:String}{e₀:Expr}{rest:List Expr}{np cpos pos:Pos}{t:TA}{R:Hp→Prop} (O:OwnCls x C bmB newId X.mg X.base) (FB:ExcBaseFacts B newId initId bmB) (hg:Gl X x) (hc:X.calm=true) (ha:PA X (e₀::rest) t)
  (hx:∀ pins σ H s h' e us,Inv X pins σ H s→Heap.MadeExcOf s.heap h' e (.ref C) us→R H→X.xe (.ref e) { s with heap:=h' })
  (he:starEach (e₀::rest) X.env=(false,eval e₀ X.env)::starEach rest X.env:=by rfl) (hplain:(backTo cpos (starEach rest X.env)).any (·.1)=false:=by rfl) (hd:(x==("__debug__":Str))=false:=by decide) :
  PS X (.Raise (some (.Call (.Name x np) (e₀::rest) [] cpos)) none pos) (fun _ σ H=>t σ H fun vs H1=>vs.length≤1000∧R H1):=by
 intro pins s σ H D I h
 obtain⟨tl,N,nm,q,bs,hdct,sn,sub,ab,col,dd,k0,k1,k2,k3,k5,mN,hC,hN,hni,T⟩:=O.obj
 refine wpAny_Raise_call_subT (C:=C) (nm:=nm) (q:=q) (N:=N) (bs:=bs) (bm:=tl) (hdct:=hdct) (sn:=sn) (sub:=sub) (ab:=ab) (col:=col) (dd:=dd) (k0:=k0) (k1:=k1) (k2:=k2) (k3:=k3) (k5:=k5)
  FB (mN:=mN) (T.hasType FB.hasBase) (I.ok.hd hc) (by rw[he];show(false||(backTo cpos (starEach rest X.env)).any (·.1))=false;rw[hplain];rfl) hni (zbT I hg O.bound ⟨rfl,?_⟩ hd)
 have h2:=ha cpos pins s σ H _ I h
 rw[he] at h2 ⊢
 refine Calls.evalArgs_plain (wpAny_mono h2 (fun us s2 h3=>?_) fun _ _ y=>y)
 obtain⟨vs,H1,I1,r,few,hR⟩:=h3
 have k:∀ b o,X.base.get? b=some o→s2.heap.get? b=some o:=fun b o e=>(I1.bs b o e).1
 exact⟨rfl,by show us.length≤sizeLine;rw[← r.length];exact zfI few,k _ _ hC,hN.keeps k,T.keeps k,fun h' e hm=>hx pins σ H1 s2 h' e us I1 hm hR⟩
end
end L2
namespace L2
open PySem PySem.Spec PyProof.Rows PySem.W
structure ExK (K:PySem.W.Frag) (C:Addr):Prop where
 cl:(PySem.W.clsIn K C).isSome=true
 ga:PySem.W.findIn K (.ref C) "__getattribute__"=some (some (.builtin "BaseException.__getattribute__"))
 gn:PySem.W.findIn K (.ref C) "__getattr__"=some none
 ca:PySem.W.findIn K (.ref C) "__class__"=some (some (.builtin "object.__class__"))
 gs:PySem.W.specialIn K (.builtin "object.__class__") "__get__"=some (some (.builtin "getset_descriptor.__get__"))
 tk:PySem.W.takesIn K (.builtin "object.__class__")=some true
 mo:PySem.W.mroIn K C (.type "object")=some true
 mb:PySem.W.mroIn K C (.type "BaseException")=some true
section
variable {prog:Program}{w:World}{A:Around}{E:Value→Shared→Prop}{s:Shared}{K:PySem.W.Frag}{x C:Addr}
theorem exc_find {M:Model}{h:Heap} (Z:ExK K C) (X:K.In h):Looks M h (Builtin.ObjectAttr.find (.ref x) (.ref C) "__class__") (.bind (.builtin "getset_descriptor.__get__") (.builtin "object.__class__")):=by
 have L1:=looks_findIn (M:=M) X Z.ca
 have L2:Looks M h (Builtin.ObjectAttr.getOf (some (.builtin "object.__class__"))) (some (.builtin "getset_descriptor.__get__")):=looks_specialIn X Z.gs
 have L3:=looks_takesIn (M:=M) X Z.tk
 have L4:Looks M h (Builtin.ObjectAttr.dataDescriptor? (some (.builtin "object.__class__")) (some (.builtin "getset_descriptor.__get__"))) (some (.builtin "getset_descriptor.__get__",.builtin "object.__class__")):=L3.andThen .now
 exact L1.andThen (L2.andThen (L4.andThen (Looks.tag .now)))
theorem exc_get {R:Result→Shared→Prop}{tp:Value} (Z:ExK K C) (X:K.In s.heap) (L0:Looks (model prog w) s.heap (typeOf (.ref x)) (.ref C)) (h:R (.ok (.ret (.ref C))) s) :
  codeAny (model prog w) A (.call (.builtin "getset_descriptor.__get__") ⟨[.builtin "object.__class__",.ref x,tp],[]⟩) R s:=by
 obtain⟨hh,g,dr,t,os⟩:=s
 have L1:=looks_mroIn (M:=model prog w) X Z.mo
 refine codeAny_call_builtin KF.slot_gs.plain KF.entry_gs ?_
 refine KF.slot_gs.check _ _ _ _ _ _ _ _ KF.type_class (KF.args_gs _ _ _) ?_
 unfold Builtin.«getset_descriptor.__get__» Builtin.Getset_descriptor.descrGet
 rw[dga_obj]
 refine wpAny_bind (wpAny_pure ?_)
 unfold Builtin.Getset_descriptor.descrGetter Builtin.Getset_descriptor.descrCheckInstance Builtin.Getset_descriptor.descrNameAndClass isInstance
 simp only[KF.owner_class]
 repeat lk
 refine⟨Code.quiet_builtin _ (by decide +kernel),?_⟩
 refine codeAny_builtin KF.entry_class ?_
 unfold Builtin.«object.__class__» shownTypeOf
 repeat lk
 exact h
theorem exc_ga {tk:Tok}{R:Result→Shared→Prop} (Z:ExK K C) (X:K.In s.heap) (L0:Looks (model prog w) s.heap (typeOf (.ref x)) (.ref C)) (h:R (.ok (.ret (.ref C))) s) :
  codeAny (model prog w) A (.call (.builtin "BaseException.__getattribute__") ⟨[.ref x,.str "__class__" tk],[]⟩) R s:=by
 obtain⟨hh,g,d,t,os⟩:=s
 have LB:=looks_mroIn (M:=model prog w) X Z.mb
 have L1:=exc_find (M:=model prog w) (x:=x) Z X
 have hk:builtinKind "BaseException.__getattribute__"=some .slot:=by decide +kernel
 have hsplit:splitId "BaseException.__getattribute__"=some ("BaseException","__getattribute__"):=by decide +kernel
 have ha:=F.args_bexc_ga (.ref x) (.str "__class__" tk)
 refine codeAny_call_builtin F.attr_ValueError.ga.plain F.entry_bexc_ga ?_
 simp only[checkBuiltinCall,hk,hsplit]
 refine wpAny_bind ?_
 unfold isInstance
 refine wpAny_bind (L0.at (LB.at ?_))
 repeat (any_goals (first | assumption | with_reducible refine L0.at ?_ | with_reducible refine L1.at ?_ | wp_step))
 exact exc_get Z X L0 (wpAny_pure h)
theorem exc_class {Q:Option Value→Shared→Prop} (Z:ExK K C) (X:K.In s.heap) (L0:Looks (model prog w) s.heap (typeOf (.ref x)) (.ref C)) (h:Q (some (.ref C)) { s with toks:=s.toks+1 }) :
  wpAny (model prog w) A (getAttr? (.ref x) "__class__") Q E s:=by
 obtain⟨hh,g,d,t,os⟩:=s
 have L1:=looks_findIn (M:=model prog w) X Z.ga
 have L2:=looks_findIn (M:=model prog w) X Z.gn
 have f3:=F.attr_ValueError.ga.bind (.ref x)
 have hx2:(onTheHeap (Value.ref C)&&Value.builtin "BaseException.__getattribute__"==Value.builtin "object.__getattribute__")=false:=by
  rw[show(Value.builtin "BaseException.__getattribute__"==Value.builtin "object.__getattribute__")=false from by decide +kernel];rfl
 unfold getAttr? getAttrBy? getAttrBy
 refine wpAny_bind (wpAny_mkText (wpAny_bind (wpAny_attempt (wpAny_holding (wpAny_bind (L0.at (wpAny_bind (L1.at ?_))))))))
 dsimp only
 rw[hx2,if_neg (by decide)]
 unfold getAttrByItsOwn hookBefore
 rw[if_pos (by rfl)]
 refine wpAny_bind (L2.at ?_)
 unfold callGetattribute boundAndCalled
 refine wpAny_bind (wpAny_attempt (wpAny_holding ?_))
 rw[if_neg (by decide),f3]
 refine wpAny_bind (wpAny_pure ?_)
 exact wpAny_call (exc_ga (s:=⟨hh,g,d,t+1,os⟩) Z X L0 (handed_on rfl (wpAny_pure h)))
end
def ExAt (a C:Addr) (h:Heap):Prop:=∃ o:Obj,h.get? a=some o∧o.cls=.ref C
theorem ExAt.type {a C:Addr}{h:Heap}{M:Model} (x:ExAt a C h):Looks M h (typeOf (.ref a)) (.ref C):=by
 obtain⟨o,e,c⟩:=x
 exact c▸(Looks.ld e).andThen .now
theorem zfJ {K:PySem.W.Frag}{a C:Addr} (Z:ExK K C):KitX K (.ref a) (.ref C) (ExAt a C) where
 ty:=fun M h X p=>p.type
 it:=fun M h X p=>by
  obtain⟨cd,hc⟩:=Option.isSome_iff_exists.mp Z.cl
  unfold clsIn at hc
  split at hc
  ·rename_i c' d' cd' sl' ho
   intro A' Q' E' s' k q
   unfold isType loadHead
   exact wpAny_bind (wpAny_loadPart (k _ _ (X _ _ ho)) (wpAny_pure q))
  ·cases hc
 ne:=fun h tp dd its n sl X htp=>by
  obtain⟨cd,hc⟩:=Option.isSome_iff_exists.mp Z.cl
  refine Bool.eq_false_iff.mpr fun q=>?_
  have e:C=tp:=Value.ref.inj (beq_iff_eq.mp q)
  subst e
  unfold clsIn at hc
  split at hc
  ·rename_i c' d' cd' sl' ho
   have z:=(X _ _ ho).symm.trans htp
   cases z
  ·cases hc
 ca:=fun X p k=>exc_class Z X p.type k
abbrev ExO (a C:Addr):HO:=.ext (ExAt a C)
section
variable {X:Cx}{pins:List (Addr×Obj)}{σ:St}{H:Hp}{s:Shared}
theorem exAt_of (I:Inv X pins σ H s){a C:Addr} (e:H a=some (ExO a C)):ExAt a C s.heap:=(I.hok a _ e).1
end
end L2
namespace L2
open PySem PySem.Spec PyProof.Rows
section
variable {X:Cx}
theorem zcj:CallR X (.builtin "isinstance") (fun xs H Q=>∃ a C c b,xs=[.ref a,c]∧H a=some (ExO a C)∧ExK X.K C∧(∀ u,RelV c u→PySem.W.kitOne X.K (.ref C) u=some b)∧Q (.bl b) H):=by
 intro pins s σ H xs us Q I r h
 obtain⟨a,C,c,b,rfl,e,Z,k,q⟩:=h
 obtain⟨u1,u2,rfl,r1,r2⟩:=vals2 r
 cases (show u1=Value.ref a from r1)
 exact PySem.W.kia_one (zfJ Z) I.kIn (exAt_of I e) (k u2 r2) (fun z=>nomatch z) fun tk=>⟨.bl b,H,I.tok tk,rfl,q⟩
theorem zeH:CallR X (.builtin "isinstance") (fun xs H Q=>∃ a C p cs b,xs=[.ref a,.ref p]∧H a=some (ExO a C)∧H p=some (.tup cs)∧ExK X.K C∧(∀ us,Vals cs us→PySem.W.kitAny X.K (.ref C) us=some b)∧Q (.bl b) H):=by
 intro pins s σ H xs us Q I r h
 obtain⟨a,C,p,cs,b,rfl,e,ep,Z,k,q⟩:=h
 obtain⟨u1,u2,rfl,r1,r2⟩:=vals2 r
 cases (show u1=Value.ref a from r1)
 cases (show u2=Value.ref p from r2)
 obtain⟨_,its,ri,o,ho,hc,n,hd⟩:=(show ObjOk X.prog X.w H s.heap p (.tup cs) from I.hok p _ ep)
 obtain⟨oc,od,dt,sl⟩:=o
 simp only at hc hd
 subst hc hd
 exact PySem.W.kia_tup (zfJ Z) I.kIn (exAt_of I e) ho (k its ri) (fun z=>nomatch z) fun tk=>⟨.bl b,H,I.tok tk,rfl,q⟩
end
end L2
namespace L2
open PySem PySem.Spec PyProof.Rows PySem.W
structure ExM (K:PySem.W.Frag) (C D:Addr):Prop where
 cl:(PySem.W.clsIn K D).isSome=true
 ty:PySem.W.typeIn K (.ref D)=some (.type "type")
 mb:PySem.W.mroIn K D (.type "BaseException")=some true
 sub:PySem.W.mroIn K C (.ref D)=some true
theorem exm_own {prog:Program}{w:World}{A:Around}{E:Value→Shared→Prop}{s:Shared}{K:PySem.W.Frag}{e C D:Addr}{ox:Obj}{Q:Bool→Shared→Prop} (X:K.In s.heap) (he:s.heap.get? e=some ox) (hc:ox.cls=.ref C) (M:ExM K C D) (h:Q true s) :
  wpAny (model prog w) A (excMatches (.ref e) (.ref D)) Q E s:=by
 obtain⟨hh,g,d,t,os⟩:=s
 have L1:=looks_typeIn (M:=model prog w) X M.ty
 have L2:=looks_mroIn (M:=model prog w) X M.mb
 have L3:=looks_mroIn (M:=model prog w) X M.sub
 have f:=tc_notTuple
 unfold excMatches
 obtain⟨cd,hcd⟩:=Option.isSome_iff_exists.mp M.cl
 unfold clsIn at hcd
 split at hcd
 ·rename_i c' d' cd' sl' ho
  have hD:=X _ _ ho
  repeat (any_goals (first | assumption | (with_reducible refine wpAny_loadPart_at he ?_;rw[hc]) | with_reducible refine L1.at ?_ | with_reducible refine L2.at ?_ | with_reducible refine L3.at ?_ | with_reducible refine wpAny_loadPart_at hD ?_ | wp_step))
 ·cases hcd
abbrev Cx.suite (X:Cx) (e:Value):Cx:={ X with A:=X.A.mark (some e),calm:=false,xe:=fun _ _=>False }
section
variable {X:Cx}{pins:List (Addr×Obj)}{σ:St}{H:Hp}{s:Shared}
theorem Inv.suite (I:Inv X pins σ H s) (e:Value):Inv (X.suite e) pins σ H s:=
 ⟨⟨I.ok.mod,I.ok.kind,I.ok.glob,I.ok.blt,I.ok.above,I.ok.inj,I.ok.has,I.ok.cab,(fun z=>by cases z),I.ok.frames,I.ok.stk,I.ok.exf,I.ok.bs,I.ok.bsz,I.ok.noex,I.ok.exfs,I.ok.funs,I.ok.frf⟩,I.os,I.bare,I.base,I.loc,I.cell,I.free,I.freeC,I.pin,I.hok,I.len⟩
theorem Inv.unsuite {e:Value} (I:Inv (X.suite e) pins σ H s) (hd:X.calm=true→X.A.handled=none) (fr:X.A.frames=some X.stack):Inv X pins σ H s:=
 ⟨⟨I.ok.mod,I.ok.kind,I.ok.glob,I.ok.blt,I.ok.above,I.ok.inj,I.ok.has,I.ok.cab,hd,fr,I.ok.stk,I.ok.exf,I.ok.bs,I.ok.bsz,I.ok.noex,I.ok.exfs,I.ok.funs,I.ok.frf⟩,I.os,I.bare,I.base,I.loc,I.cell,I.free,I.freeC,I.pin,I.hok,I.len⟩
theorem goes_ok {M:Model}{A:Around}{E:Value→Shared→Prop}{i:Nat}{n:Str}{pos:Pos}{Q:Unit→Shared→Prop} (I:Inv X pins σ H s) (hN:X.N.Nodup) (hi:X.N[i]?=some n) (hl:X.env.scope.names.lookup n=some .local)
  (h:∀ s',Inv X pins (σ.set i none) H s'→Q () s'):wpAny M A (do bindName X.env n .none;unbindBehindTheSuite X.env n pos) Q E s:=by
 obtain⟨m,hn,hv⟩:=id I.loc
 obtain⟨oL,_,_,hoL,_⟩:=id hn
 have hp:(X.env.scope.kind==.class||(X.env.scope.kind==.module&&X.env.locals != X.env.globals))=false:=by rw[I.ok.kind];rfl
 have hiσ:i<σ.length:=by rw[I.len];exact(List.getElem?_eq_some_iff.mp hi).1
 refine wpAny_nameGoes_keeps hl hn hp fun h' v hn' hs=>h _ ?_
 have old:∀ b o,X.s₀.heap.get? b=some o→b≠X.env.locals:=fun b o e=>Nat.ne_of_lt (Nat.lt_of_lt_of_le (Heap.lt_size e) I.ok.above)
 refine⟨I.ok,I.os,I.bare,⟨fun b o e n hb hx=>(hs.2 b (old b o e)).trans (I.base.keep b o e n hb hx),fun b o e n hb hx=>?_,I.base.free,fun b o e hx=>?_,I.base.tups,I.base.frzs,I.base.tbls⟩,⟨_,hn',fun j y v' e1 e2 e3=>?_⟩,fun y c e=>?_,I.free,I.freeC,fun p hp=>?_,fun b ob e=>?_,by simpa using I.len⟩
 ·obtain⟨sl,e1⟩:=I.base.slot b o e n hb hx
  exact⟨sl,(hs.2 b (old b o e)).trans e1⟩
 ·obtain⟨o',e1⟩:=I.base.there b o e hx
  exact⟨o',(hs.2 b (old b o e)).trans e1⟩
 ·by_cases hj:j=i
  ·subst hj
   rw[List.getElem?_set_self hiσ] at e2
   cases e2
  ·rw[List.getElem?_set_ne (Ne.symm hj)] at e2
   obtain⟨u',r',q⟩:=hv j y v' e1 e2 e3
   refine⟨u',r',?_⟩
   rcases q with ⟨k,e⟩ | ⟨k,c,e,z⟩
   ·refine .inl ⟨k,?_⟩
    have:y≠n:=fun e=>hj (zdE hN e1 (e▸hi))
    simp [this,e]
   ·exact .inr ⟨k,c,e,z.sameBut hs (I.cne y c e)⟩
 ·obtain⟨w',z⟩:=I.cell y c e
  exact⟨w',z.sameBut hs (I.cne y c e)⟩
 ·obtain⟨e,n,ne,nf,d⟩:=I.pin p hp
  exact⟨(hs.2 p.1 ne).trans e,n,ne,nf,d⟩
 ·refine(I.hok b ob e).stay (fun c w' hc q=>(hs.2 c ?_).trans q) (fun _ q=>q) fun _ _ q=>q
  rintro rfl
  rcases hc with rfl | hc
  ·rw[I.free] at e;cases e
  ·rw[I.free] at hc;cases hc
theorem come_ok {e C t:Addr}{H':Hp}{B h6:Heap}{s':Shared}{tk:Nat} (I:Inv X pins σ H s) (hst:X.stack=X.env::X.outer) (os:s'.os=s.os) (bare:AllBare s'.gens) (un:Un (frs X.stack) [] H H' s.heap s'.heap) (hok:HOk X.prog X.w H' s'.heap)
  (i1:∀ b o,H' b≠none→s'.heap.get? b=some o→B.get? b=some o) (i2:∀ b o,s.heap.get? b=some o→H b=none→b∉frs X.stack→B.get? b=some o) (i3:∀ b o,s.heap.get? b=some o→b∉frs X.stack→∃ o',B.get? b=some o')
  (fl:Heap.FlyingW B X.stack e (.ref C) (.ref t) s'.heap) (st:B.StaysIn h6) (sm:s'.heap.UpToSlots h6):Inv X pins σ H' { s' with heap:=h6,toks:=tk }:=by
 have fu:=I.stack
 have slk:∀ b o,s.heap.get? b=some o→b∈frs X.stack→∃ sl,h6.get? b=some { o with slots:=sl }:=fun b o e hb=>by
  obtain⟨_,o',e',nf⟩:=fu.mem hb
  rw[e] at e';cases e'
  obtain⟨sl,q⟩:=un.slot b o e (I.stkFree b hb) hb (by simp)
  obtain⟨sl2,q2⟩:=sm b _ q nf
  exact⟨sl2,q2⟩
 refine I.call' (s':={ s' with heap:=h6,toks:=tk }) (ch:=[]) os ⟨fun b o e n hb _=>st _ _ (i2 b o e n hb),fun b o e n hb _=>slk b o e hb,fun b o e n hx=>un.free b o e n hx,fun b o e hx=>?_,un.tups,un.frzs,un.tbls⟩ ?_ bare (fun _ z=>nomatch z)
 ·by_cases z:b∈frs X.stack
  ·obtain⟨sl,q⟩:=slk b o e z
   exact⟨_,q⟩
  ·obtain⟨o',q⟩:=i3 b o e z
   exact⟨o',st _ _ q⟩
 ·intro a u q
  refine(hok a u q).stay (fun b v hb e=>?_) (fun _ z=>z) fun _ _ z=>z
  refine st _ _ (i1 b v ?_ e)
  rcases hb with z | z
  ·rw[z,q];exact Option.some_ne_none _
  ·rw[z];exact Option.some_ne_none _
theorem track_ok {a C:Addr}{H2:Hp}{s6:Shared} (I1:Inv X pins σ H s) (I:Inv X pins σ H2 s6) (hex:X.ex=[]) (na:H2 a=none) (nw:∀ b o,s.heap.get? b=some o→b≠a) (x:ExAt a C s6.heap):Inv X pins σ (upd H2 a (ExO a C)) s6:=by
 have nex:∀ b,b∉X.ex:=fun b z=>by rw[hex] at z;cases z
 have n0:∀ b o,X.s₀.heap.get? b=some o→b≠a:=fun b o e=>by
  obtain⟨o',e'⟩:=I1.base.there b o e (nex b)
  exact nw b o' e'
 have no:∀ b u,H2 b=some u→b≠a:=fun b u e z=>by rw[z,na] at e;cases e
 refine⟨I.ok,I.os,I.bare,⟨I.base.keep,I.base.slot,fun b o e n hx=>by rw[zac (n0 b o e)];exact I.base.free b o e n hx,I.base.there,fun b xs e=>?_,fun b o u e=>?_,fun b ps e=>?_⟩,I.loc,I.cell,?_,fun y c e=>?_,fun p hp=>?_,fun b u e=>?_,I.len⟩
 ·have:=I.base.tups b xs e
  rw[zac (no b _ this)];exact this
 ·have:=I.base.frzs b o u e
  rw[zac (no b _ this)];exact this
 ·obtain⟨more,this⟩:=I.base.tbls b ps e
  exact⟨more,by rw[zac (no b _ this)];exact this⟩
 ·obtain⟨m,⟨o,_,_,ho,_⟩,_⟩:=I1.loc
  rw[zac (nw _ o ho)];exact I.free
 ·obtain⟨v,o,ho,_⟩:=I1.cell y c e
  rw[zac (nw _ o ho)];exact I.freeC y c e
 ·obtain⟨e,n,ne,nf,d⟩:=I.pin p hp
  obtain⟨e1,_⟩:=I1.pin p hp
  exact⟨e,by rw[zac (nw _ _ e1)];exact n,ne,nf,d⟩
 ·by_cases z:b=a
  ·subst z
   rw[zab] at e
   cases e
   obtain⟨o,e1,e2⟩:=id x
   exact⟨x,⟨o,e1⟩,fun h1 h2 ⟨o,q1,q2⟩ k=>⟨o,k o q1,q2⟩⟩
  ·rw[zac z] at e
   exact(I.hok b u e).stay (hc:=fun c xs q=>by rw[zac (no c _ q)];exact q) (fun _ _ _ q=>q) (fun c q=>by rw[zac (no c _ q)];exact q) fun c xs q=>by rw[zac (no c _ q)];exact q
end
end L2
namespace L2
open PySem PySem.Spec PyProof.Rows PySem.W
section
variable {X:Cx}
end
end L2
namespace L2
open PySem PySem.Spec PyProof.Rows
section
variable {X:Cx}{K:PySem.W.Frag}{k:Nat}{x:Str}{p pos:Pos}{e:Expr}{es:List Expr}{ua:UA}{G:Rel}
end
section
variable {P:Program}{w:World}{K:PySem.W.Frag}{mg:Str→Option Value}{base:Heap}
theorem xe_of {N:List Str}{qual:Str}{scope:Scope}{f:Addr}{cd:Value}{A:Around}{outer:List Env}{s:Shared}{H:Hp}{E:XK}{C:Addr}{pins:List (Addr×Obj)}{σ:St}{H1:Hp}{s1:Shared}{h':Heap}{e:Addr}{us:List Value}
  (I:Inv (cxOf (CXe P w) P w K mg base N qual scope f cd A outer s H E) pins σ H1 s1) (m:Heap.MadeExcOf s1.heap h' e (.ref C) us) (hE:∀ e,E (.ref e) (some C) H1):(cxOf (CXe P w) P w K mg base N qual scope f cd A outer s H E).xe (.ref e) { s1 with heap:=h' }:=
 left_ok (X:=cxOf (CXe P w) P w K mg base N qual scope f cd A outer s H E) I rfl I.ok.frames rfl rfl m (hE e)
end
end L2
namespace L2
open PySem
section
variable {X:Cx}{K:PySem.W.Frag}{a b:Expr}{ua ub:UE}{pos:Pos}{k:Nat}
end
section
variable {X:Cx}{K:PySem.W.Frag}{a b:Expr}{ua ub:UE}{pos:Pos}{k:Nat}
end
end L2
namespace L2
open PySem PySem.Spec PyProof.Rows
theorem e_pow {X:Cx}{K:PySem.W.Frag}{a b:Expr}{ua ub:UE}{pos:Pos} (ha:PE X a (liftQ K ua)) (hb:PE X b (liftQ K ub)):PE X (.BinOp a .Pow b pos) (liftV K (u2 (gI CPow fun i j=>.int (i ^ j.toNat)) ua ub)):=s_bin op_pow (br_I fun _ _ _ _=>.int _) ha hb
end L2
namespace L2
open PySem PySem.Spec PyProof.Rows
section
variable {prog:Program}{w:World}{A:Around}{E:Value→Shared→Prop}{s:Shared}{a:Addr}{vs:List (Key×Value)}{ep:Nat}
end
section
variable {X:Cx}
end
end L2
namespace L2
open PySem PySem.Spec PyProof.Rows
section
variable {X:Cx}{K:PySem.W.Frag}{e:Expr}{ue:UE}{p pos:Pos}
end
end L2
namespace L2
open PySem PySem.Spec PyProof.Rows
section
variable {X:Cx}{pins:List (Addr×Obj)}{σ:St}{H:Hp}{s:Shared}{N:Addr→Prop}
end
section
variable {X:Cx}{K:PySem.W.Frag}{a b:Expr}{ua ub:UE}{pos:Pos}{k:Nat}
end
end L2
namespace L2
open PySem PySem.Spec PyProof.Rows
section
variable {X:Cx}{K:PySem.W.Frag}{pos kpos npos:Pos}{j:Nat}
end
end L2
namespace L2
open PySem PySem.Spec PyProof.Rows
end L2
namespace L2
open PySem PySem.Spec PyProof.Rows
section
variable {X:Cx}{K:PySem.W.Frag}{a b:Expr}{ua ub:UE}{pos:Pos}{r:R2}{G:G2}{k:Nat}
end
end L2
set_option maxHeartbeats 4000000
namespace HO
open PySem PyProof.Rows PySem.SeqAt
def CmpAt (op:CmpOp) (A:Around) (s:Shared) (y x:Value) (b:Bool):Prop:=∀ (prog:Program) (w:World) (E Q:Value→Shared→Prop),Q (.bool b) s→wpAny (model prog w) A (richCompare op y x) Q E s
def endB (op:CmpOp) (m n:Nat):Bool:=match op with
 | .Lt=>decide (m<n)
 | .LtE=>decide (m≤n)
 | _=>decide (n<m)
inductive LexO (op:CmpOp) (A:Around) (s:Shared):List Value→List Value→Bool→Prop
 | fin {ys xs:List Value}:ys=[]∨xs=[]→LexO op A s ys xs (endB op ys.length xs.length)
 | eq {y x:Value}{ys xs:List Value}{b:Bool}:EqAt A s y x true→LexO op A s ys xs b→LexO op A s (y::ys) (x::xs) b
 | ne {y x:Value}{ys xs:List Value}{b:Bool}:EqAt A s y x false→CmpAt op A s y x b→LexO op A s (y::ys) (x::xs) b
section
open PySem.AutoSeq1 (wpAny_loadPart')
open PySem.MeetsSeq PySem.MeetsSeq2 PySem.MeetsSeq3
theorem zce (l b:Addr) (its its2:Array Value) (n n2:Nat) (dd dd2:Option Addr) (sl sl2:Array (Option Value)) (r:Bool) :
  Meets (Builtin.«tuple.__lt__» ⟨[.ref l,.ref b],[]⟩)
   (fun A R s=>s.heap.get? l=some { cls:=.type "tuple",dict:=dd,data:=.seq its n,slots:=sl }∧s.heap.get? b=some { cls:=.type "tuple",dict:=dd2,data:=.seq its2 n2,slots:=sl2 } ∧
    LexO .Lt A.in1 s its.toList its2.toList r∧R (.ok (.ret (.bool r))) s):=
 .of_wp fun prog w A R s h=>by
  obtain⟨hp,g,d,tk,os⟩:=s;obtain⟨hl,hb,hx0,h⟩:=h
  have f2:=AutoSeq1.sub_tuple_tuple
  wp_walk using wpAny_loadPart' hl,wpAny_loadPart' hb,wpAny_forIn_list _ (fun rest b s'=>b.1=none∧s'=⟨hp,g,d,tk,os⟩∧∃ (vs ws:List Value),rest=vs.zip ws ∧
   LexO .Lt A.in1 ⟨hp,g,d,tk,os⟩ vs ws r∧vs.length+its2.size=ws.length+its.size) _
  case turn=>
   rintro⟨y,x⟩ rest b s' ⟨hb',rfl,vs,ws,hz,hv,hlen⟩
   cases hv with
   | fin e=>rcases e with rfl | rfl<;>simp at hz
   | eq he ht=>
    rw[List.zip_cons_cons] at hz
    injection hz with hyx hrest
    injection hyx with hy hx
    subst hy hx
    simp only[List.length_cons] at hlen
    refine wpAny_bind (he prog w _ _ ?_)
    wp_walk
    exact⟨rfl,rfl,_,_,hrest,ht,by omega⟩
   | ne he hlt=>
    rw[List.zip_cons_cons] at hz
    injection hz with hyx hrest
    injection hyx with hy hx
    subst hy hx
    refine wpAny_bind (he prog w _ _ ?_)
    have hri:=hlt prog w
    wp_walk using hri
    exact⟨_,rfl,by simpa using h⟩
  case fin=>
   rintro⟨b1,b2⟩ s' ⟨hb',rfl,vs,ws,hz,hv,hlen⟩
   simp only at hb'
   subst hb'
   have hr:r=endB .Lt its.size its2.size:=by
    cases hv with
    | fin e=>
     unfold endB
     refine decide_eq_decide.mpr ?_
     omega
    | eq=>rw[List.zip_cons_cons] at hz;cases hz
    | ne=>rw[List.zip_cons_cons] at hz;cases hz
   rw[hr] at h
   wp_walk
   exact⟨_,rfl,by simpa [Builtin.Tuple.tupleCompareSizes,endB] using h⟩
  case h=>
   exact⟨rfl,rfl,its.toList,its2.toList,rfl,hx0,by simp;omega⟩
theorem zef (l b:Addr) (its its2:Array Value) (n n2:Nat) (dd dd2:Option Addr) (sl sl2:Array (Option Value)) (r:Bool) :
  Meets (Builtin.«tuple.__le__» ⟨[.ref l,.ref b],[]⟩)
   (fun A R s=>s.heap.get? l=some { cls:=.type "tuple",dict:=dd,data:=.seq its n,slots:=sl }∧s.heap.get? b=some { cls:=.type "tuple",dict:=dd2,data:=.seq its2 n2,slots:=sl2 } ∧
    LexO .LtE A.in1 s its.toList its2.toList r∧R (.ok (.ret (.bool r))) s):=
 .of_wp fun prog w A R s h=>by
  obtain⟨hp,g,d,tk,os⟩:=s;obtain⟨hl,hb,hx0,h⟩:=h
  have f2:=AutoSeq1.sub_tuple_tuple
  wp_walk using wpAny_loadPart' hl,wpAny_loadPart' hb,wpAny_forIn_list _ (fun rest b s'=>b.1=none∧s'=⟨hp,g,d,tk,os⟩∧∃ (vs ws:List Value),rest=vs.zip ws ∧
   LexO .LtE A.in1 ⟨hp,g,d,tk,os⟩ vs ws r∧vs.length+its2.size=ws.length+its.size) _
  case turn=>
   rintro⟨y,x⟩ rest b s' ⟨hb',rfl,vs,ws,hz,hv,hlen⟩
   cases hv with
   | fin e=>rcases e with rfl | rfl<;>simp at hz
   | eq he ht=>
    rw[List.zip_cons_cons] at hz
    injection hz with hyx hrest
    injection hyx with hy hx
    subst hy hx
    simp only[List.length_cons] at hlen
    refine wpAny_bind (he prog w _ _ ?_)
    wp_walk
    exact⟨rfl,rfl,_,_,hrest,ht,by omega⟩
   | ne he hlt=>
    rw[List.zip_cons_cons] at hz
    injection hz with hyx hrest
    injection hyx with hy hx
    subst hy hx
    refine wpAny_bind (he prog w _ _ ?_)
    have hri:=hlt prog w
    wp_walk using hri
    exact⟨_,rfl,by simpa using h⟩
  case fin=>
   rintro⟨b1,b2⟩ s' ⟨hb',rfl,vs,ws,hz,hv,hlen⟩
   simp only at hb'
   subst hb'
   have hr:r=endB .LtE its.size its2.size:=by
    cases hv with
    | fin e=>
     unfold endB
     refine decide_eq_decide.mpr ?_
     omega
    | eq=>rw[List.zip_cons_cons] at hz;cases hz
    | ne=>rw[List.zip_cons_cons] at hz;cases hz
   rw[hr] at h
   wp_walk
   exact⟨_,rfl,by simpa [Builtin.Tuple.tupleCompareSizes,endB] using h⟩
  case h=>
   exact⟨rfl,rfl,its.toList,its2.toList,rfl,hx0,by simp;omega⟩
theorem zeg (l b:Addr) (its its2:Array Value) (n n2:Nat) (dd dd2:Option Addr) (sl sl2:Array (Option Value)) (r:Bool) :
  Meets (Builtin.«tuple.__gt__» ⟨[.ref l,.ref b],[]⟩)
   (fun A R s=>s.heap.get? l=some { cls:=.type "tuple",dict:=dd,data:=.seq its n,slots:=sl }∧s.heap.get? b=some { cls:=.type "tuple",dict:=dd2,data:=.seq its2 n2,slots:=sl2 } ∧
    LexO .Gt A.in1 s its.toList its2.toList r∧R (.ok (.ret (.bool r))) s):=
 .of_wp fun prog w A R s h=>by
  obtain⟨hp,g,d,tk,os⟩:=s;obtain⟨hl,hb,hx0,h⟩:=h
  have f2:=AutoSeq1.sub_tuple_tuple
  wp_walk using wpAny_loadPart' hl,wpAny_loadPart' hb,wpAny_forIn_list _ (fun rest b s'=>b.1=none∧s'=⟨hp,g,d,tk,os⟩∧∃ (vs ws:List Value),rest=vs.zip ws ∧
   LexO .Gt A.in1 ⟨hp,g,d,tk,os⟩ vs ws r∧vs.length+its2.size=ws.length+its.size) _
  case turn=>
   rintro⟨y,x⟩ rest b s' ⟨hb',rfl,vs,ws,hz,hv,hlen⟩
   cases hv with
   | fin e=>rcases e with rfl | rfl<;>simp at hz
   | eq he ht=>
    rw[List.zip_cons_cons] at hz
    injection hz with hyx hrest
    injection hyx with hy hx
    subst hy hx
    simp only[List.length_cons] at hlen
    refine wpAny_bind (he prog w _ _ ?_)
    wp_walk
    exact⟨rfl,rfl,_,_,hrest,ht,by omega⟩
   | ne he hlt=>
    rw[List.zip_cons_cons] at hz
    injection hz with hyx hrest
    injection hyx with hy hx
    subst hy hx
    refine wpAny_bind (he prog w _ _ ?_)
    have hri:=hlt prog w
    wp_walk using hri
    exact⟨_,rfl,by simpa using h⟩
  case fin=>
   rintro⟨b1,b2⟩ s' ⟨hb',rfl,vs,ws,hz,hv,hlen⟩
   simp only at hb'
   subst hb'
   have hr:r=endB .Gt its.size its2.size:=by
    cases hv with
    | fin e=>
     unfold endB
     refine decide_eq_decide.mpr ?_
     omega
    | eq=>rw[List.zip_cons_cons] at hz;cases hz
    | ne=>rw[List.zip_cons_cons] at hz;cases hz
   rw[hr] at h
   wp_walk
   exact⟨_,rfl,by simpa [Builtin.Tuple.tupleCompareSizes,endB] using h⟩
  case h=>
   exact⟨rfl,rfl,its.toList,its2.toList,rfl,hx0,by simp;omega⟩
end
theorem CmpAt.tup_lt {A:Around}{s:Shared}{l b:Addr}{its its2:Array Value}{r:Bool} (hl:s.heap.IsTuple l its) (hb:s.heap.IsTuple b its2) (hu:A.units<cLine) (hx:LexO .Lt A.in1 s its.toList its2.toList r) :
  CmpAt .Lt A s (.ref l) (.ref b) r:=fun prog w E Q h=>by
 obtain⟨⟨c1,d1,t1,l1⟩,ho,hc,n,hd⟩:=id hl
 obtain⟨⟨c2,d2,t2,l2⟩,ho2,hc2,n2,hd2⟩:=id hb
 simp only at hc hd hc2 hd2
 subst hc hd hc2 hd2
 exact richCompare_meets_room (op:=.Lt) ⟨_,ho,rfl⟩ ⟨_,ho2,rfl⟩ PySem.F.slot_tuple_lt PySem.F.entry_tuple_lt (PySem.F.args_tuple_lt_2 _ _) (zce l b its its2 n n2 d1 d2 l1 l2 r)
  ⟨ho,ho2,hx,show Value.bool r≠Value.notImplemented∧Q (.bool r) s from⟨(fun x=>nomatch x),h⟩⟩ hu
theorem CmpAt.tup_le {A:Around}{s:Shared}{l b:Addr}{its its2:Array Value}{r:Bool} (hl:s.heap.IsTuple l its) (hb:s.heap.IsTuple b its2) (hu:A.units<cLine) (hx:LexO .LtE A.in1 s its.toList its2.toList r) :
  CmpAt .LtE A s (.ref l) (.ref b) r:=fun prog w E Q h=>by
 obtain⟨⟨c1,d1,t1,l1⟩,ho,hc,n,hd⟩:=id hl
 obtain⟨⟨c2,d2,t2,l2⟩,ho2,hc2,n2,hd2⟩:=id hb
 simp only at hc hd hc2 hd2
 subst hc hd hc2 hd2
 exact richCompare_meets_room (op:=.LtE) ⟨_,ho,rfl⟩ ⟨_,ho2,rfl⟩ PySem.F.slot_tuple_le PySem.F.entry_tuple_le (PySem.F.args_tuple_le_2 _ _) (zef l b its its2 n n2 d1 d2 l1 l2 r)
  ⟨ho,ho2,hx,show Value.bool r≠Value.notImplemented∧Q (.bool r) s from⟨(fun x=>nomatch x),h⟩⟩ hu
theorem CmpAt.tup_gt {A:Around}{s:Shared}{l b:Addr}{its its2:Array Value}{r:Bool} (hl:s.heap.IsTuple l its) (hb:s.heap.IsTuple b its2) (hu:A.units<cLine) (hx:LexO .Gt A.in1 s its.toList its2.toList r) :
  CmpAt .Gt A s (.ref l) (.ref b) r:=fun prog w E Q h=>by
 obtain⟨⟨c1,d1,t1,l1⟩,ho,hc,n,hd⟩:=id hl
 obtain⟨⟨c2,d2,t2,l2⟩,ho2,hc2,n2,hd2⟩:=id hb
 simp only at hc hd hc2 hd2
 subst hc hd hc2 hd2
 exact richCompare_meets_room (op:=.Gt) ⟨_,ho,rfl⟩ ⟨_,ho2,rfl⟩ PySem.F.slot_tuple_gt PySem.F.entry_tuple_gt (PySem.F.args_tuple_gt_2 _ _) (zeg l b its its2 n n2 d1 d2 l1 l2 r)
  ⟨ho,ho2,hx,show Value.bool r≠Value.notImplemented∧Q (.bool r) s from⟨(fun x=>nomatch x),h⟩⟩ hu
def Op3 (op:CmpOp):Prop:=op=.Lt∨op=.LtE∨op=.Gt
theorem CmpAt.tuples {op:CmpOp} (h3:Op3 op){A:Around}{s:Shared}{l b:Addr}{its its2:Array Value}{r:Bool} (hl:s.heap.IsTuple l its) (hb:s.heap.IsTuple b its2) (hu:A.units<cLine) (hx:LexO op A.in1 s its.toList its2.toList r):CmpAt op A s (.ref l) (.ref b) r:=by
 rcases h3 with rfl | rfl | rfl
 ·exact .tup_lt hl hb hu hx
 ·exact .tup_le hl hb hu hx
 ·exact .tup_gt hl hb hu hx
def icmp (op:CmpOp) (i j:Int):Bool:=match op with
 | .Lt=>decide (i<j)
 | .LtE=>decide (i≤j)
 | _=>decide (j<i)
def scmp (op:CmpOp) (x y:Str):Bool:=match op with
 | .Lt=>decide (x.cps.toList<y.cps.toList)
 | .LtE=>!decide (y.cps.toList<x.cps.toList)
 | _=>decide (y.cps.toList<x.cps.toList)
theorem CmpAt.int {op:CmpOp} (h3:Op3 op) (A:Around) (s:Shared) (a:Int) (t:Tok) (c:Int) (u:Tok):CmpAt op A s (.int a t) (.int c u) (icmp op a c):=fun prog w E Q h=>by
 rcases h3 with rfl | rfl | rfl
 ·exact(PyProof.Rows.lt_int h:wpAny (model prog w) A (compareOp .Lt (.int a t) (.int c u)) Q E s)
 ·exact(PyProof.Rows.le_int h:wpAny (model prog w) A (compareOp .LtE (.int a t) (.int c u)) Q E s)
 ·exact(PyProof.Rows.gt_int h:wpAny (model prog w) A (compareOp .Gt (.int a t) (.int c u)) Q E s)
theorem CmpAt.str {op:CmpOp} (h3:Op3 op) (A:Around) (s:Shared) (a:Str) (t:Tok) (c:Str) (u:Tok):CmpAt op A s (.str a t) (.str c u) (scmp op a c):=fun prog w E Q h=>by
 rcases h3 with rfl | rfl | rfl
 ·exact(PyProof.Rows.lt_str h:wpAny (model prog w) A (compareOp .Lt (.str a t) (.str c u)) Q E s)
 ·exact(P.le_str h:wpAny (model prog w) A (compareOp .LtE (.str a t) (.str c u)) Q E s)
 ·exact(P.gt_str h:wpAny (model prog w) A (compareOp .Gt (.str a t) (.str c u)) Q E s)
end HO
namespace L2
open PySem PySem.Spec PyProof.Rows
mutual
def pcmp (op:CmpOp):PV→PV→Bool
 | .int i,.int j=>HO.icmp op i j
 | .str x,.str y=>HO.scmp op x y
 | .tup xs,.tup ys=>pcmps op xs ys
 | _,_=>false
def pcmps (op:CmpOp):List PV→List PV→Bool
 | x::xs,y::ys=>if peq x y=true then pcmps op xs ys else pcmp op x y
 | xs,ys=>HO.endB op xs.length ys.length
end
mutual
def pok:PV→PV→Prop
 | .int _,.int _=>True
 | .str _,.str _=>True
 | .tup xs,.tup ys=>poks xs ys
 | _,_=>False
def poks:List PV→List PV→Prop
 | x::xs,y::ys=>if peq x y=true then poks xs ys else pok x y
 | _,_=>True
end
section
variable {X:Cx}{pins:List (Addr×Obj)}{σ:St}{H:Hp}{s:Shared}{N:Addr→Prop}
theorem lexO_of {op:CmpOp}{A:Around}{n:Nat} (heq:∀ x y v w u u',Dp n x→Dp n y→RV X.K N H x v→RV X.K N H y w→RelV v u→RelV w u'→SeqAt.EqAt A s u u' (peq x y))
  (hc:∀ x y v w u u',Dp n x→Dp n y→RV X.K N H x v→RV X.K N H y w→RelV v u→RelV w u'→pok x y→HO.CmpAt op A s u u' (pcmp op x y)) :
  ∀ (xs ys:List PV) (vs ws:List V) (us us':List Value),(∀ x∈xs,Dp n x)→(∀ y∈ys,Dp n y)→RVs X.K N H xs vs→RVs X.K N H ys ws→Vals vs us→Vals ws us'→poks xs ys→HO.LexO op A s us us' (pcmps op xs ys)
 | [],ys,vs,ws,us,us',_,_,r1,r2,q1,q2,_=>by
  cases r1;cases q1
  have e:ys.length=us'.length:=r2.len.trans q2.length
  rw[show pcmps op [] ys=HO.endB op 0 ys.length by cases ys<;>rfl,e]
  exact .fin (.inl rfl)
 | x::xs,[],vs,ws,us,us',_,_,r1,r2,q1,q2,_=>by
  cases r2;cases q2
  have e:(x::xs).length=us.length:=r1.len.trans q1.length
  rw[show pcmps op (x::xs) []=HO.endB op (x::xs).length 0 by rfl,e]
  exact .fin (.inr rfl)
 | x::xs,y::ys,vs,ws,us,us',d1,d2,r1,r2,q1,q2,ok=>by
  cases r1 with
  | cons a1 a2=>
   cases r2 with
   | cons b1 b2=>
    cases q1 with
    | cons c1 c2=>
     cases q2 with
     | cons e1 e2=>
      have he:=heq x y _ _ _ _ (d1 x (by simp)) (d2 y (by simp)) a1 b1 c1 e1
      unfold pcmps
      unfold poks at ok
      cases hb:peq x y with
      | true=>
       rw[hb] at he ok
       rw[if_pos rfl] at ok ⊢
       exact .eq he (lexO_of heq hc xs ys _ _ _ _ (fun z h=>d1 z (by simp [h])) (fun z h=>d2 z (by simp [h])) a2 b2 c2 e2 ok)
      | false=>
       rw[hb] at he ok
       rw[if_neg (by simp)] at ok ⊢
       exact .ne he (hc x y _ _ _ _ (d1 x (by simp)) (d2 y (by simp)) a1 b1 c1 e1 ok)
theorem cmpAt_pv {op:CmpOp} (h3:HO.Op3 op) (I:Inv X pins σ H s):∀ (n:Nat) (A:Around) (x y:PV) (v w:V) (u u':Value),A.units+n<cLine→Dp n x→Dp n y→RV X.K N H x v→RV X.K N H y w→RelV v u→RelV w u'→pok x y→HO.CmpAt op A s u u' (pcmp op x y):=by
 have flat:∀ (A:Around) (x y:PV) (v w:V) (u u':Value),RV X.K N H x v→RV X.K N H y w→RelV v u→RelV w u'→pok x y→(∀ xs,x≠.tup xs)→HO.CmpAt op A s u u' (pcmp op x y):=fun A x y v w u u' r1 r2 q1 q2 ok nt=>by
  cases r1 with
  | int i=>
   cases r2 with
   | int j=>obtain⟨t,rfl⟩:=q1;obtain⟨t',rfl⟩:=q2;exact .int h3 _ _ _ _ _ _
   | _=>exact ok.elim
  | str i=>
   cases r2 with
   | str j=>obtain⟨t,rfl⟩:=q1;obtain⟨t',rfl⟩:=q2;exact .str h3 _ _ _ _ _ _
   | _=>exact ok.elim
  | tup _ _=>exact absurd rfl (nt _)
  | _=>exact ok.elim
 intro n
 induction n with
 | zero=>
  intro A x y v w u u' hu d1 d2 r1 r2 q1 q2 ok
  exact flat A x y v w u u' r1 r2 q1 q2 ok fun xs e=>by subst e;exact zbi d1
 | succ n ih=>
  intro A x y v w u u' hu d1 d2 r1 r2 q1 q2 ok
  cases hx:x with
  | tup xs=>
   subst hx
   cases hy:y with
   | tup ys=>
    subst hy
    cases r1 with
    | tup a1 a2=>
     cases r2 with
     | tup b1 b2=>
      cases q1;cases q2
      obtain⟨us,c1,p1,_⟩:=I.tuple a1
      obtain⟨us',c2,p2,_⟩:=I.tuple b1
      refine .tuples h3 (show s.heap.IsTuple _ us.toArray from p1) (show s.heap.IsTuple _ us'.toArray from p2) (by omega) ?_
      exact lexO_of (n:=n) (fun x y v w u u' e1 e2 e3 e4 e5 e6=>zdQ I n A.in1 x y v w u u' (by rw[zav];omega) e1 e2 e3 e4 e5 e6)
       (fun x y v w u u' e1 e2 e3 e4 e5 e6 e7=>ih A.in1 x y v w u u' (by rw[zav];omega) e1 e2 e3 e4 e5 e6 e7) xs ys _ _ _ _ (dp_all.mp (dp_tup.mp d1)) (dp_all.mp (dp_tup.mp d2)) a2 b2 c1 c2 ok
   | _=>subst hy;exact ok.elim
  | _=>subst hx;exact flat A _ y v w u u' r1 r2 q1 q2 ok fun xs e=>nomatch e
end
def rCmpP (K:PySem.W.Frag) (op:CmpOp):R2:=fun x y H Q=>∃ N px py n,n≤80∧Dp n px∧Dp n py∧pok px py∧RV K N H px x∧RV K N H py y∧Q (.bl (pcmp op px py)) H
theorem op_cmpP {X:Cx}{op:CmpOp} (h3:HO.Op3 op) (hu:X.A.units+100<cLine):OpR X (compareOp op) (rCmpP X.K op):=by
 intro pins s σ H x y v u Q I rx ry h
 obtain⟨N,px,py,n,hn,d1,d2,ok,r1,r2,q⟩:=h
 have key:=cmpAt_pv h3 I n X.A px py x y v u (by omega) d1 d2 r1 r2 rx ry ok X.prog X.w X.xe _ (show EP X pins σ Q (.bool (pcmp op px py)) s from⟨.bl _,H,I,rfl,q⟩)
 rcases h3 with rfl | rfl | rfl<;>exact key
def gCmp (op:CmpOp):G2:=fun x y z=>(∃ n,n≤80∧Dp n x∧Dp n y)∧pok x y∧z=.bl (pcmp op x y)
theorem br_cmp {K:PySem.W.Frag}{op:CmpOp}:Br2 K (rCmpP K op) (gCmp op):=by
 intro H A σ x y v w z Q R q1 q2 g c
 obtain⟨⟨n,hn,d1,d2⟩,ok,rfl⟩:=g
 have nl:∀ {x:PV}{y:PV},pok x y→∀ c:OC,x≠c.pv∧y≠c.pv:=fun {x y} h c=>by
  cases c<;>exact⟨fun e=>by subst e;cases y<;>exact h.elim,fun e=>by subst e;cases x<;>exact h.elim⟩
 exact⟨AN A,x,y,n,hn,d1,d2,ok,q1.rv fun c=>(nl ok c).1,q2.rv fun c=>(nl ok c).2,c _ H (Same.refl H) (.bl _)⟩
section
variable {X:Cx}{K:PySem.W.Frag}{a b:Expr}{ua ub:UE}{pos:Pos}{k:Nat}
theorem e_cmp {op:CmpOp} (h3:HO.Op3 op) (hK:X.K=K) (hr:Room k X.A) (ha:PE X a (liftQ K ua)) (hb:PE X b (liftQ K ub)) (hm:behindInMarks op b=false:=by rfl):PE X (.Compare a [op] [b] pos) (liftV K (u2 (gCmp op) ua ub)):=by
 subst hK
 exact s_cmp (op_cmpP h3 (by have:=hr.un;omega)) br_cmp ha hb hm
theorem t_cmp {op:CmpOp} (h3:HO.Op3 op) (hK:X.K=K) (hr:Room k X.A) (ha:PE X a (liftQ K ua)) (hb:PE X b (liftQ K ub)) (hm:behindInMarks op b=false:=by rfl):PT X (.Compare a [op] [b] pos) (liftT K (u2t (gCmp op) ua ub)):=by
 subst hK
 exact zbx (op_cmpP h3 (by have:=hr.un;omega)) br_cmp ha hb hm
end
end L2
set_option maxHeartbeats 1000000
namespace L2
open PySem PySem.Spec PyProof.Rows
section
variable {X:Cx}{pins:List (Addr×Obj)}{σ:St}{H:Hp}{s:Shared}{N:Addr→Prop}{h':Heap}
theorem Inv.adopt {t':Nat}{it:Addr}{o:HO} (I:Inv X pins σ H s) (k:∀ b o,b≠it→s.heap.get? b=some o→h'.get? b=some o) (hn:H it=none) (hL:it≠X.env.locals)
  (h1:X.s₀.heap.objs.size≤it) (h2:∀ x c,X.env.cells.lookup x=some c→c≠it) (h3:∀ p∈X.pn++pins,p.1≠it) (new:ObjOk X.prog X.w (upd H it o) h' it o):Inv X pins σ (upd H it o) { s with heap:=h',toks:=t' }:=by
 have nit:∀ b u,H b=some u→b≠it:=fun b u e z=>by rw[z,hn] at e;cases e
 have up:∀ b u,H b=some u→upd H it o b=some u:=fun b u e=>by rw[zac (nit b u e)];exact e
 refine I.step (g':=s.gens) (d':=s.drawn) (ch:=[it]) (fun b hb=>?_) (fun b o _ _ hc e _=>k b o (fun z=>hc (by simp [z])) e) (fun b o _ _ hc e _=>⟨o.slots,k b o (fun z=>hc (by simp [z])) e⟩) (fun b _ hc _ n=>by rw[zac (fun z=>hc (by simp [z]))];exact n)
  (fun b o hc e=>⟨o,k b o (fun z=>hc (by simp [z])) e⟩) (fun _ _ e=>up _ _ e) (fun _ _ _ e=>up _ _ e) (fun b ps e=>⟨#[],by rw[up _ _ e];simp⟩) (fun m hm=>?_) (fun b u e=>?_) I.bare
 ·have e:b=it:=by simpa using hb
  subst e
  exact⟨.inr h1,hL,h2,h3⟩
 ·obtain⟨o,es,ep,ho,r⟩:=hm
  exact⟨o,es,ep,k _ o (Ne.symm hL) ho,r⟩
 ·by_cases hb:b=it
  ·subst hb;rw[zab] at e;cases e;exact new
  ·rw[zac hb] at e
   refine(I.hok b u e).stay (hc:=fun c q z=>up _ _ z) (fun c v hc q=>k c v ?_ q) (fun _ q=>up _ _ q) fun _ _ q=>up _ _ q
   rcases hc with z | z
   ·rw[z];exact nit b u e
   ·exact nit c _ z
theorem zeu {A:Around}{n:Nat}{Q:Bool→Shared→Prop} (heq:∀ x y v w u u',Dp n x→Dp n y→RV X.K N H x v→RV X.K N H y w→RelV v u→RelV w u'→SeqAt.EqAt A s u u' (peq x y))
  (hc:∀ x y v w u u',Dp n x→Dp n y→RV X.K N H x v→RV X.K N H y w→RelV v u→RelV w u'→pok x y→HO.CmpAt .Lt A s u u' (pcmp .Lt x y)) :
  ∀ (xs ys:List PV) (vs ws:List V) (us us':List Value) (i:Nat) (fin:Bool),(∀ x∈xs,Dp n x)→(∀ y∈ys,Dp n y)→RVs X.K N H xs vs→RVs X.K N H ys ws→Vals vs us→Vals ws us'→poks xs ys→fin=decide (us.length<us'.length)→Q (pcmps .Lt xs ys) s→PySem.W.KatLex X.prog X.w A false fin Q (us.zip us') i s
 | [],ys,vs,ws,us,us',i,fin,_,_,r1,r2,q1,q2,_,hf,h=>by
  cases r1;cases q1
  have e:ys.length=us'.length:=r2.len.trans q2.length
  rw[show pcmps .Lt [] ys=HO.endB .Lt 0 ys.length by cases ys<;>rfl,e] at h
  rw[List.zip_nil_left]
  exact PySem.W.kat_nil (by rw[hf];exact h)
 | x::xs,[],vs,ws,us,us',i,fin,_,_,r1,r2,q1,q2,_,hf,h=>by
  cases r2;cases q2
  have e:(x::xs).length=us.length:=r1.len.trans q1.length
  rw[show pcmps .Lt (x::xs) []=HO.endB .Lt (x::xs).length 0 by rfl,e] at h
  rw[List.zip_nil_right]
  exact PySem.W.kat_nil (by rw[hf];exact h)
 | x::xs,y::ys,vs,ws,us,us',i,fin,d1,d2,r1,r2,q1,q2,ok,hf,h=>by
  cases r1 with
  | cons a1 a2=>
   cases r2 with
   | cons b1 b2=>
    cases q1 with
    | cons c1 c2=>
     cases q2 with
     | cons e1 e2=>
      have he:=heq x y _ _ _ _ (d1 x (by simp)) (d2 y (by simp)) a1 b1 c1 e1
      unfold pcmps at h
      unfold poks at ok
      rw[List.zip_cons_cons]
      refine PySem.W.kat_cons (he _ _ _ _ ?_)
      cases hb:peq x y with
      | true=>
       rw[hb] at ok h
       rw[if_pos rfl] at ok h
       exact PySem.W.kat_yes (zeu heq hc xs ys _ _ _ _ (i+1) fin (fun z h=>d1 z (by simp [h])) (fun z h=>d2 z (by simp [h])) a2 b2 c2 e2 ok (by rw[hf];simp) h)
      | false=>
       rw[hb] at ok h
       rw[if_neg (by simp)] at ok h
       exact PySem.W.kat_no (PySem.W.kat_one _ _ (hc x y _ _ _ _ (d1 x (by simp)) (d2 y (by simp)) a1 b1 c1 e1 ok _ _ _ _ h))
theorem keyLt_pv (I:Inv X pins σ H s){A:Around}{n:Nat}{xs ys:List PV}{v w:V}{u u':Value}{Q:Bool→Shared→Prop}{E:Value→Shared→Prop} (hu:A.units+n<cLine) (d1:Dp n (.tup xs)) (d2:Dp n (.tup ys)) (r1:RV X.K N H (.tup xs) v) (r2:RV X.K N H (.tup ys) w) (q1:RelV v u) (q2:RelV w u') (ok:pok (.tup xs) (.tup ys))
  (h:Q (pcmp .Lt (.tup xs) (.tup ys)) s):wpAny (model X.prog X.w) A (keyLt' (tuples' false) u u') Q E s:=by
 cases n with
 | zero=>exact absurd d1 zbi
 | succ n=>
  cases r1 with
  | tup a1 a2=>
   cases r2 with
   | tup b1 b2=>
    cases q1;cases q2
    obtain⟨us,c1,p1,_⟩:=I.tuple a1
    obtain⟨us',c2,p2,_⟩:=I.tuple b1
    obtain⟨o1,g1,_,n1,e1⟩:=(show s.heap.IsTuple _ us.toArray from p1)
    obtain⟨o2,g2,_,n2,e2⟩:=(show s.heap.IsTuple _ us'.toArray from p2)
    refine PySem.W.kat_lt g1 e1 g2 e2 ?_
    exact zeu (n:=n) (fun x y v w u u' z1 z2 z3 z4 z5 z6=>zdQ I n A x y v w u u' (by omega) z1 z2 z3 z4 z5 z6)
     (fun x y v w u u' z1 z2 z3 z4 z5 z6 z7=>cmpAt_pv (.inl rfl) I n A x y v w u u' (by omega) z1 z2 z3 z4 z5 z6 z7) xs ys _ _ _ _ 0 _ (dp_all.mp (dp_tup.mp d1)) (dp_all.mp (dp_tup.mp d2)) a2 b2 c1 c2 ok (by simp) h
end
end L2
namespace L2
open PySem PySem.Spec PyProof.Rows
abbrev F0:Addr→Prop:=fun _=>False
structure KeysOk (xs:List PV) (ky:PV→PV) (r:Nat→Int):Prop where
 few:xs.length<64
 tup:∀ x∈xs,∃ a b,ky x=.tup (.tup a::b)
 dp:∃ n,n≤80∧∀ x∈xs,Dp n (ky x)
 ok:∀ x∈xs,∀ y∈xs,pok (ky x) (ky y)
 inj:∀ i j,i<xs.length→j<xs.length→r i=r j→i=j
 lt:∀ (i j:Nat) (x y:PV),xs[i]?=some x→xs[j]?=some y→pcmp .Lt (ky x) (ky y)=decide (r i<r j)
section
variable {X:Cx}{pins:List (Addr×Obj)}{σ:St}{H:Hp}{s:Shared}{k:Nat}{f:Addr}{fd:FuncData}{ps:List Str}{G:Rel}
theorem zeM {vs:List V}{us:List Value} (h:Vals vs us){i:Nat}{v:V} (hv:vs[i]?=some v):∃ u,us[i]?=some u∧RelV v u:=by
 induction h generalizing i with
 | nil=>cases hv
 | cons a b ih=>
  cases i with
  | zero=>cases hv;exact⟨_,rfl,a⟩
  | succ i=>exact ih (by simpa using hv)
theorem tups_of {N:Addr→Prop} (I:Inv X pins σ H s):∀ {ks:List PV}{vs:List V}{us:List Value},(∀ x∈ks,∃ a b,x=.tup (.tup a::b))→RVs X.K N H ks vs→Vals vs us→∃ fs,PySem.W.KatTups s.heap us fs∧fs.length=us.length∧∀ v∈fs,PySem.W.Looks (model X.prog X.w) s.heap (typeOf v) (.type "tuple")
 | [],vs,us,_,r,q=>by cases r;cases q;exact⟨[],.nil,rfl,fun v h=>by cases h⟩
 | x::ks,vs,us,hk,r,q=>by
  cases r with
  | cons r1 r2=>
   cases q with
   | cons q1 q2=>
    obtain⟨fs,t,l,ty⟩:=tups_of I (fun y hy=>hk y (by simp [hy])) r2 q2
    obtain⟨a,b,rfl⟩:=hk x (by simp)
    cases r1 with
    | tup a1 a2=>
     cases q1
     obtain⟨us1,c1,p1,_⟩:=I.tuple a1
     obtain⟨o1,g1,k1,n1,e1⟩:=(show s.heap.IsTuple _ us1.toArray from p1)
     cases a2 with
     | cons b1 b2=>
      cases c1 with
      | cons d1 d2=>
       cases b1 with
       | tup w1 w2=>
        cases d1
        obtain⟨us2,_,p2,_⟩:=I.tuple w1
        obtain⟨o2,g2,k2,n2,e2⟩:=(show s.heap.IsTuple _ us2.toArray from p2)
        refine⟨_::fs,.cons g1 k1 e1 (by simp;rfl) t,by simp [l],fun v hv=>?_⟩
        rcases List.mem_cons.mp hv with rfl | hv
        ·rw[← k2]
         exact(PySem.W.Looks.ld g2).andThen .now
        ·exact ty v hv
theorem tree_ok {D:Addr}{its:List Value}{n0:Nat}{xs:List PV}{vs:List V}{ky:PV→PV}{r:Nat→Int}{P:PySem.Fin→Shared→Prop}{E:Value→Shared→Prop} (F:FnOk X.prog X.w X.K X.mg X.base CX0 k f fd ps (spV X.K false G)) (hr:Room (k+2) X.A) (hb:Binds X.K fd ps [])
  {s0:Shared} (I0:Inv X pins σ H s0) (hge:s0.heap.objs.size≤D) (hkeep:∀ b u,s0.heap.get? b=some u→s.heap.get? b=some u) (hs:∃ h t,s={ s0 with heap:=h,toks:=t })
  (e:s.heap.get? D=some (seqObj "list" its.toArray n0)) (rv:RVs X.K F0 H xs vs) (q:Vals vs its) (Ko:KeysOk xs ky r) (hG:∀ x∈xs,G [x] (ky x))
  (fin:∀ (s':Shared) (H':Hp) (p:Array Nat),Inv X pins σ (upd H' D (.lst (p.toList.map fun i=>vs.getD i .non))) s'→H' D=none→Same H H'→KS.Pm xs.length p→KS.Asc r p xs.length→P (.done (.ret .none)) s') :
  wpAny (model X.prog X.w) X.A.in1.in1 (ksk_tree D (.ref f) false) P E s:=by
 have lv:xs.length=vs.length:=rv.len
 have li:vs.length=its.length:=q.length
 have few:=Ko.few
 have hz64:its.length<64:=by omega
 have hzL:its.length≤sizeLine:=Nat.le_of_lt (zbe (by omega))
 unfold ksk_tree
 refine wpAny_bind (listItems_at e rfl ?_)
 refine wpAny_bind (listUpdate_at e rfl ?_ (by rw[List.size_toArray];exact hzL) (Nat.zero_le _))
 obtain⟨e1,ho1⟩:∃ e1,(s.heap.update D (Obj.mapSeq fun _=>(#[]:Array Value))).get? D=some (seqObj "list" #[] e1):=⟨_,get?_update_seq e fun _=>#[]⟩
 refine wpAny_bind (seqEpoch_at ho1 rfl ?_)
 refine wpAny_bind (wpAny_newTuple ?_ (by show its.length≤_;exact hzL))
 refine wpAny_bind (wpAny_newList ?_ (Nat.zero_le _))
 refine wpAny_holding ?_
 have Dlt:D<s.heap.objs.size:=Heap.lt_size e
 -- the heap behind these
 generalize hh4:(s.heap.update D (Obj.mapSeq fun _=>(#[]:Array Value))).push { cls:=Value.type "tuple",data:=.seq its.toArray.toList.toArray }=h4
 have hD4:h4.get? D=some (seqObj "list" #[] e1):=by rw[← hh4];exact Heap.get?_push_of_some _ ho1
 have kp4:∀ b u,s0.heap.get? b=some u→h4.get? b=some u:=fun b u z=>by
  rw[← hh4]
  refine Heap.get?_push_of_some _ ?_
  rw[Heap.get?_update_ne _ _ _ _ (fun w=>by rw[w] at z;exact absurd (Heap.lt_size z) (Nat.not_lt.mpr hge))]
  exact hkeep b u z
 obtain⟨hp,tk,rfl⟩:=hs
 have HD:H D=none:=I0.hok.fresh hge
 have DL:D≠X.env.locals:=Nat.ne_of_gt (Nat.lt_of_lt_of_le I0.lt hge)
 have I4:Inv X ((D,seqObj "list" #[] e1)::pins) σ H { s0 with heap:=h4,toks:=tk }:=by
  have J:=I0.kept (h':=h4) (t':=tk) kp4
  refine J.pins_of fun p hp=>?_
  rcases List.mem_cons.mp hp with rfl | hp
  ·exact⟨hD4,HD,DL,I0.nofs hge,fun v z=>nomatch z⟩
  ·exact J.pin p (List.mem_append_right _ hp)
 have kS_D:D<h4.objs.size:=Heap.lt_size hD4
 have I5:=I4.lnew (ys:=[]) (its:=[]) (t':=tk) .nil (Nat.zero_le _)
 have hkS:H h4.objs.size=none:=I4.fresh
 show wpAny (model X.prog X.w) X.A.in1.in1 (ksk_rest D (.ref f) false its.toArray e1 (.ref h4.objs.size)) P E { s0 with heap:=h4.push { cls:=.type "list",data:=.seq ([]:List Value).toArray },toks:=tk }
 generalize h4.objs.size=kS at I5 hkS kS_D
 generalize ({ s0 with heap:=h4.push { cls:=Value.type "list",data:=.seq ([]:List Value).toArray },toks:=tk }:Shared)=s5 at I5
 unfold ksk_rest
 refine wpAny_bind (wpAny_rule ?_)
 rw[List.forIn_toArray]
 have nDk:D≠kS:=Nat.ne_of_lt kS_D
 have kpN:KeepV X.K F0 (fun a=>a=kS) H H:=⟨fun _ _ h=>h,fun a o _ h=>⟨fun z=>by (rw[z,hkS] at h;cases h),h⟩⟩
 refine wpAny_bind (wpAny_mono (ksk_fold (Q:=fun _ s'=>∃ (H':Hp) (vks:List V),Inv X ((D,seqObj "list" #[] e1)::pins) σ H' s'∧H' kS=some (.lst vks)∧Same H H'∧RVs X.K (fun a=>a=kS) H' (xs.map ky) vks)
  (fun i s'=>∃ (H':Hp) (vks:List V),Inv X ((D,seqObj "list" #[] e1)::pins) σ H' s'∧H' kS=some (.lst vks)∧Same H H'∧RVs X.K (fun a=>a=kS) H' ((xs.take i).map ky) vks) its 0 s5 ⟨_,[],I5,zab,zam hkS _,by simpa using RVs.nil⟩ ?_ ?_) ?_ fun _ _ x=>x)
 ·rintro j u s' hu ⟨H',vks,I',hk',sm,rk⟩
  rw[Nat.zero_add] at rk ⊢
  have hj:j<its.length:=(List.getElem?_eq_some_iff.mp hu).1
  have hxj:xs[j]?=some xs[j]:=List.getElem?_eq_getElem (by omega)
  obtain⟨v,hv,rx⟩:=rv.at hxj
  obtain⟨u',hu',ru⟩:=zeM q hv
  rw[hu] at hu'
  cases hu'
  have mem:xs[j]∈xs:=List.getElem_mem _
  have sp:spV X.K false G ([v]++[]) H' (fun w H2=>Same H' H2∧RV X.K (fun a=>a=kS) H2 (ky xs[j]) w) E0:=⟨fun a=>a=kS,[xs[j]],ky xs[j],fun a (z:a=kS)=>by (rw[z,hk'];intro y;cases y),.cons ((rx.imp kpN).imp (zan sm)) .nil,hG _ mem,fun w H2 po=>po⟩
  have r2:Vals ([v]++[]) ([u]++[]):=.cons ru .nil
  have hl2:([u]++[]:List Value).length=ps.length:=by rw[← r2.length];exact F.len _ _ _ _ sp
  refine wpAny_bind (wpAny_attempt (wpAny_call (codeAny_mono (F.run X.A.in1.in1 X.stack s' H' ⟨[u],[]⟩ ([u]++[]) ([v]++[]) _ E0 hr.in1.in1 I'.env0.in1.in1 (hb s' [u] I'.kIn hl2) r2 sp) fun res s2 hq=>?_)))
  cases res with
  | error ee=>exact hq.elim
  | ok fl=>
   cases fl with
   | ret w=>
    obtain⟨wv,H2,I2,rw2,sm2,rvw⟩:=I'.after (Q:=fun w H2=>Same H' H2∧RV X.K (fun a=>a=kS) H2 (ky xs[j]) w) hq
    have hk2:=sm2 _ _ hk'
    obtain⟨zz,ks,nk,rks,lks,ek⟩:=I2.lstM hk2
    have l1:ks.length=j:=by rw[← lks,← rk.len,List.length_map,List.length_take];omega
    dsimp only
    refine wpAny_bind (listUpdate_at ek rfl ?_ (by rw[List.size_toArray];omega) (Nat.le_trans (Nat.le_of_eq (Array.size_push ..)) (by rw[List.size_toArray];omega)))
    refine wpAny_pure ⟨rfl,_,vks++[wv],I2.lset (its':=ks++[w]) hk2 ek (by simp) (rks.append (.cons rw2 .nil)) (by rw[List.length_append,List.length_singleton,lks,l1];exact Nat.le_of_lt (zbe (by omega))),zab,fun b o z=>?_,?_⟩
    ·rw[zac (zae z hkS)]
     exact sm2 _ _ (sm _ _ z)
    ·have kp:KeepV X.K (fun a=>a=kS) (fun a=>a=kS) H2 (upd H2 kS (.lst (vks++[wv]))):=⟨fun a us h=>zdm hk2 h,fun a o nn h=>⟨nn,by rw[zac nn];exact h⟩⟩
     rw[List.take_succ,hxj,Option.toList_some,List.map_append]
     exact((rk.imp (zan sm2)).app (.cons rvw .nil)).imp kp
   | next=>exact hq.elim
   | brk=>exact hq.elim
   | cont=>exact hq.elim
 ·rintro s' ⟨H',vks,I',hk',sm,rk⟩
  refine⟨H',vks,I',hk',sm,?_⟩
  rw[Nat.zero_add,List.take_of_length_le (by omega)] at rk
  exact rk
 ·rintro _ s' ⟨H',vks,I',hk',sm,rk⟩
  obtain⟨zz,ks,nk,rks,lks,ek⟩:=I'.lstM hk'
  have lk:ks.length=its.length:=by rw[← lks,← rk.len,List.length_map];omega
  refine wpAny_bind (listItems_at ek rfl ?_)
  -- the end,once the row is known
  have tail:∀ (st:SortSt) (p:Array Nat),KS.Pm xs.length p→KS.Asc r p xs.length→(arrOf st).map (·.2)=List.toArray (p.toList.map fun i=>its.getD i Value.none)→failedOf st=none →
    wpAny (model X.prog X.w) X.A.in1.in1 (ksk_tail D false e1 (.ref kS) st) P E s':=fun st p Pp Pa hout hf=>by
   have lp:p.size=xs.length:=Pp.size
   unfold ksk_tail
   dsimp only
   rw[hout,if_neg (by simp)]
   refine wpAny_bind (listUpdate_at ek rfl ?_ (by rw[List.size_toArray];omega) (Nat.zero_le _))
   have I6:=I'.lset (its':=[]) (f:=fun _=>#[]) (t':=s'.toks) hk' ek rfl .nil (Nat.zero_le _)
   have hD6:=(I6.pin (D,seqObj "list" #[] e1) (by simp)).1
   refine wpAny_bind (wpAny_letGo ?_)
   refine wpAny_bind (seqEpoch_at hD6 rfl ?_)
   have hsz:(List.toArray (p.toList.map fun i=>its.getD i Value.none)).size=xs.length:=by rw[List.size_toArray,List.length_map,Array.length_toList,lp]
   refine wpAny_bind (listUpdate_at hD6 rfl ?_ (Nat.zero_le _) (by rw[hsz];exact Nat.le_succ_of_le (Nat.le_of_lt (zbe (by omega)))))
   rw[hf]
   simp only[bne_self_eq_false,Bool.false_eq_true,if_false]
   refine wpAny_pure ?_
   have HD6:upd H' kS (.lst []) D=none:=(I6.pin (D,seqObj "list" #[] e1) (by simp)).2.1
   have I7:Inv X pins σ (upd H' kS (.lst [])) { s' with heap:=s'.heap.update kS (Obj.mapSeq fun _=>#[]),toks:=s'.toks }:=I6.pins_of fun p hp=>I6.pin p (by simp [hp])
   refine fin _ (upd H' kS (.lst [])) p (Inv.adopt (s:={ s' with heap:=s'.heap.update kS (Obj.mapSeq fun _=>#[]),toks:=s'.toks }) (t':=s'.toks) I7 (fun b o nb z=>(Heap.get?_update_other _ _ (Ne.symm nb)).trans z) HD6 DL (Nat.le_trans I0.sz hge) ?_ ?_ ?_) HD6 (fun b o z=>by rw[zac (zae z hkS)];exact sm b o z) Pp Pa
   ·intro x c hc z
    obtain⟨v,o,ho,_⟩:=I0.cell x c hc
    rw[z] at ho
    exact absurd (Heap.lt_size ho) (Nat.not_lt.mpr hge)
   ·intro pp hpp z
    have:=(I0.pin pp hpp).1
    rw[z] at this
    exact absurd (Heap.lt_size this) (Nat.not_lt.mpr hge)
   ·refine⟨by rw[List.length_map,Array.length_toList,lp];exact Nat.le_of_lt (zbe (by omega)),p.toList.map (fun i=>its.getD i Value.none),_,?_,get?_update_seq hD6 _⟩
    have hall:∀ i∈p.toList,i<its.length:=fun i hi=>by
     have:=Pp.mem_iff.mp hi
     have:=List.mem_range.mp this
     omega
    generalize p.toList=l at hall
    induction l with
    | nil=>exact .nil
    | cons i l ih=>
     refine .cons ?_ (ih fun j hj=>hall j (by simp [hj]))
     have hi:=hall i (by simp)
     have hv:vs[i]?=some vs[i]:=List.getElem?_eq_getElem (by omega)
     obtain⟨u,hu,ru⟩:=zeM q hv
     show RelV (vs.getD i .non) (its.getD i .none)
     rw[List.getD_eq_getElem?_getD,List.getD_eq_getElem?_getD,hv,hu]
     exact ru
  unfold ksk_end
  dsimp only
  simp only[Bool.false_eq_true,if_false]
  by_cases h2:its.toArray.size<2
  ·rw[if_pos h2,if_pos h2]
   refine wpAny_bind (wpAny_pure ?_)
   refine wpAny_bind (wpAny_pure ?_)
   have h2':its.length<2:=by simpa using h2
   refine tail _ (List.toArray (List.range xs.length)) (by unfold KS.Pm;simp) (fun i j hij hj=>absurd hij (by omega)) ?_ rfl
   show(ks.toArray.zip its.toArray).map (·.2)=_
   apply Array.toList_inj.mp
   rw[Array.toList_map,ksk_zip]
   have e1:(ks.zip its).map (·.2)=its:=by rw[List.map_snd_zip];omega
   rw[e1]
   refine List.ext_getElem? fun i=>?_
   by_cases hi:i<its.length
   ·simp [hi,show i<xs.length by omega]
   ·simp [show its.length≤i by omega,show xs.length≤i by omega]
  ·rw[if_neg h2,if_neg h2]
   have h2':2≤its.length:=by simpa using h2
   obtain⟨fs,ft,fl,fty⟩:=tups_of I' (ks:=xs.map ky) (fun y hy=>by obtain⟨x,hx,rfl⟩:=List.mem_map.mp hy;exact Ko.tup x hx) rk rks
   refine wpAny_bind (PySem.W.kat_kind ft (by omega) fty (by decide) ?_)
   rw[show(Value.type "tuple" != Value.type "tuple")=false by decide]
   have key:(PySem.W.kas_sort its.length).kasWp (PySem.W.kas_ask X.prog X.w X.A.in1.in1 (tuples' false) ks) (fun p s2=>s2=s'∧KS.Pm xs.length p∧KS.Asc r p xs.length) s':=by
    rw[show its.length=xs.length by omega]
    refine KS.Ko.wp (lt:=KS.Lt r) (n:=xs.length) (fun i j C hi hj hC=>?_) (fun p hp=>⟨rfl,hp⟩) _ (KS.sort_ok Ko.inj (by omega))
    obtain⟨n,hn,hd⟩:=Ko.dp
    have get:∀ i,i<xs.length→∃ a v,xs[i]?=some (xs.getD i .non)∧xs.getD i .non∈xs∧ky (xs.getD i .non)=.tup a∧RV X.K (fun a=>a=kS) H' (.tup a) v∧RelV v (ks.getD i Value.none):=fun i hi=>by
     have hx:xs[i]?=some xs[i]:=List.getElem?_eq_getElem hi
     have eg:xs.getD i .non=xs[i]:=by rw[List.getD_eq_getElem?_getD,hx];rfl
     obtain⟨a,b,eky⟩:=Ko.tup xs[i] (List.getElem_mem _)
     obtain⟨v,hv,rvi⟩:=rk.at (i:=i) (x:=ky xs[i]) (by rw[List.getElem?_map,hx];rfl)
     obtain⟨u,hu,ru⟩:=zeM rks hv
     rw[eg]
     refine⟨_,v,hx,List.getElem_mem _,eky,eky▸rvi,?_⟩
     rw[List.getD_eq_getElem?_getD,hu]
     exact ru
    obtain⟨a,v,g1,g2,g3,g4,g5⟩:=get i hi
    obtain⟨b,w,k1,k2,k3,k4,k5⟩:=get j hj
    have hlt:=Ko.lt i j _ _ g1 k1
    have hok:=Ko.ok _ g2 _ k2
    have d1:=hd _ g2
    have d2:=hd _ k2
    rw[g3] at hlt hok d1
    rw[k3] at hlt hok d2
    refine keyLt_pv I' (n:=n) ?_ d1 d2 g4 k4 g5 k5 hok ?_
    ·have:=hr.in1.in1.un;omega
    ·rw[hlt];exact hC
   refine wpAny_bind (wpAny_mono (PySem.W.kat_run (Q:=fun st s2=>s2=s'∧∃ p,KS.Pm xs.length p∧KS.Asc r p xs.length∧(arrOf st).map (·.2)=List.toArray (p.toList.map fun i=>its.getD i Value.none)∧failedOf st=none) lk h2' hz64
    (fun p st s2 a1 a2 a3 a4=>⟨a4.1,p,a4.2.1,a4.2.2,PySem.W.kat_snds lk a2,a3⟩) key) ?_ fun _ _ x=>x)
   rintro⟨⟨⟩,st⟩ s2 ⟨rfl,p,Pp,Pa,ho,hf⟩
   exact tail st p Pp Pa ho hf
end
end L2
namespace L2
open PySem PySem.Spec PyProof.Rows
section
variable {K:PySem.W.Frag}{H H1 H':Hp}{σ:St}{A:AS}{i:Nat}{N N':Addr→Prop}
theorem RFs.imp {fs:List (Str×PV)}{ws:List (Str×V)} (k:KeepV K N N' H H') (h:RFs K N H fs ws):RFs K N' H' fs ws:=⟨h.1,h.2.imp k⟩
theorem zbr {α β:Type}{fs:List (Str×α)}{ws:List (Str×β)} (e:fs.map Prod.fst=ws.map Prod.fst) (f:Str):fs.lookup f=none→ws.lookup f=none:=by
 induction fs generalizing ws with
 | nil=>
  intro _
  cases ws with
  | nil=>rfl
  | cons w ws=>cases e
 | cons p fs ih=>
  intro h
  cases ws with
  | nil=>cases e
  | cons w ws=>
   obtain⟨g,x⟩:=p
   obtain⟨g',y⟩:=w
   rw[List.map_cons,List.map_cons,List.cons.injEq] at e
   have e1:g=g':=e.1
   subst e1
   rw[List.lookup_cons] at h ⊢
   cases hb:(f==g) with
   | true=>rw[hb] at h;cases h
   | false=>rw[hb] at h;exact ih e.2 h
theorem RFs.look {fs:List (Str×PV)}{ws:List (Str×V)} (h:RFs K N H fs ws){f:Str}{x:PV} (e:fs.lookup f=some x):∃ v,ws.lookup f=some v∧RV K N H x v:=by
 obtain⟨h1,h2⟩:=h
 induction fs generalizing ws with
 | nil=>cases e
 | cons p fs ih=>
  cases ws with
  | nil=>cases h1
  | cons w ws=>
   obtain⟨g,y⟩:=p
   obtain⟨g',u⟩:=w
   rw[List.map_cons,List.map_cons,List.cons.injEq] at h1
   have e1:g=g':=h1.1
   subst e1
   rw[List.map_cons,List.map_cons] at h2
   cases h2 with
   | cons a b=>
    rw[List.lookup_cons] at e ⊢
    cases hb:(f==g) with
    | true=>rw[hb] at e;cases e;exact⟨u,rfl,a⟩
    | false=>rw[hb] at e;exact ih e h1.2 b
def putP (f:Str) (x:PV):List (Str×PV)→List (Str×PV)
 | []=>[(f,x)]
 | (g,y)::r=>if g=f then (g,x)::r else (g,y)::putP f x r
theorem RFs.put {fs:List (Str×PV)}{ws:List (Str×V)} (h:RFs K N H fs ws) (f:Str){x:PV}{v:V} (r:RV K N H x v):RFs K N H (putP f x fs) (putF f v ws):=by
 obtain⟨h1,h2⟩:=h
 induction fs generalizing ws with
 | nil=>
  cases ws with
  | nil=>exact⟨rfl,.cons r .nil⟩
  | cons _ _=>cases h1
 | cons p fs ih=>
  cases ws with
  | nil=>cases h1
  | cons w ws=>
   obtain⟨g,y⟩:=p
   obtain⟨g',u⟩:=w
   rw[List.map_cons,List.map_cons,List.cons.injEq] at h1
   have e1:g=g':=h1.1
   subst e1
   rw[List.map_cons,List.map_cons] at h2
   cases h2 with
   | cons a b=>
    unfold putP putF
    by_cases hg:g=f
    ·rw[if_pos hg,if_pos hg]
     exact⟨by rw[List.map_cons,List.map_cons,h1.2],.cons r b⟩
    ·rw[if_neg hg,if_neg hg]
     obtain⟨i1,i2⟩:=ih h1.2 b
     exact⟨by rw[List.map_cons,List.map_cons,i1],.cons a i2⟩
theorem RFs.len {fs:List (Str×PV)}{ws:List (Str×V)} (h:RFs K N H fs ws):fs.length=ws.length:=by
 have:=congrArg List.length h.1
 simpa using this
theorem Rep.turnC (R:Rep K H σ A){a:Addr}{c c':OC} (hi:A.rho[i]?=some (some (.own a c))) (bt:But a H H') (oc:OcAt K (AN A) H' a c'):Rep K H' σ (put A i (.own a c'))∧Stp A H (put A i (.own a c')) H':=by
 obtain⟨v,ev,rfl,nb,ha⟩:=R.sl i _ hi
 have oa:Own A.rho a:=⟨i,c,hi⟩
 have ow:∀ b,Own (put A i (.own a c')).rho b→Own A.rho b:=by
  rintro b ⟨j,c,h⟩
  rcases zaj h with ⟨_,z⟩ | ⟨_,z⟩
  ·cases z;exact⟨i,_,hi⟩
  ·exact⟨j,c,z⟩
 have hne:∀ b o,H b=some o→(∀ vs,o≠.lst vs)→(∀ vs,o≠.dK vs)→(∀ C dx vs,o≠.ins C dx vs)→b≠a:=fun b o h h1 h2 h3 e=>by
  subst e
  rcases R.own_at oa with ⟨z,q⟩ | ⟨z,q⟩ | ⟨_,_,z,q⟩<;>(rw[q] at h;cases h)
  ·exact h1 _ rfl
  ·exact h2 _ rfl
  ·exact h3 _ _ _ rfl
 have dm:∀ b,H b≠none→H' b≠none:=fun b h=>by
  by_cases e:b=a
  ·subst e;exact oc.some
  ·cases e2:H b with
   | none=>exact absurd e2 h
   | some o=>exact zay (bt b o e2 e)
 have S:Stp A H (put A i (.own a c')) H':=⟨fun b o h m=>bt b o h fun e=>m (.inl (by rw[e];exact oa)),fun b z=>.inl (ow b z),rfl,dm,rfl⟩
 have kp:=R.keep S
 refine⟨⟨?_,?_,fun b h=>dm b (R.dom b h),?_,?_,?_⟩,S⟩
 ·rw[R.len];exact(List.length_set ..).symm
 ·intro j t h
  rcases zaj h with ⟨rfl,z⟩ | ⟨n,z⟩
  ·cases z;exact⟨_,ev,rfl,nb,oc.imp ⟨fun _ _ h=>h,fun b o n e=>⟨fun z=>n (z.elim .inl fun y=>.inr (ow b y)),e⟩⟩ fun _ h=>h⟩
  ·obtain⟨w,e1,q⟩:=R.sl j t z
   refine⟨w,e1,?_⟩
   cases t with
   | val x=>exact q.imp kp
   | own b c=>
    have nab:b≠a:=fun e=>n (by subst e;exact R.nd _ _ _ _ _ hi z)
    exact⟨q.1,q.2.1,q.2.2.imp kp fun o h=>bt b o h nab⟩
   | peek b c=>
    have nab:b≠a:=fun e=>nb (by subst e;exact q.2.1)
    exact⟨q.1,q.2.1,q.2.2.imp kp fun o h=>bt b o h nab⟩
 ·intro i1 j1 b c1 c2 h1 h2
  rcases zaj h1 with ⟨e1,z1⟩ | ⟨_,z1⟩
  ·cases z1
   rcases zaj h2 with ⟨e2,z2⟩ | ⟨_,z2⟩
   ·exact e1.symm.trans e2
   ·exact e1.symm.trans (R.nd _ _ _ _ _ hi z2)
  ·rcases zaj h2 with ⟨e2,z2⟩ | ⟨_,z2⟩
   ·cases z2;exact(R.nd _ _ _ _ _ z1 hi).trans e2
   ·exact R.nd _ _ _ _ _ z1 z2
 ·intro st h
  obtain⟨h1,h2,h3⟩:=R.st st h
  have nd:st.d≠a:=fun e=>nb (by rw[← e];exact h1)
  obtain⟨t,l,w,e,r⟩:=h2.ex
  refine⟨h1,⟨⟨t,l,w,bt _ _ e nd,r⟩,fun T o z=>⟨bt _ _ (h2.tb T o z).1 (hne _ _ (h2.tb T o z).1 (fun _ z=>nomatch z) (fun _ z=>nomatch z) (fun _ _ _ z=>nomatch z)),(h2.tb T o z).2⟩⟩,?_⟩
  exact h3.keepF fun o u h3=>bt _ _ h3 (hne _ _ h3 (fun _ z=>nomatch z) (fun _ z=>nomatch z) (fun _ _ _ z=>nomatch z))
 ·intro i1 b c1 st h1 h2
  rcases zaj h1 with ⟨_,z⟩ | ⟨_,z1⟩
  ·cases z
  ·exact R.pk _ _ _ _ z1 h2
theorem Rep.own_newN {a:Addr}{c:OC} (R:Rep K H σ A) (hi:A.rho[i]?=some (some (.own a c))) (hld:c.Ld) (hN:∀ b,N b→AN A b):FrV K N (erase H a) H c.pv (.ref a)∧KeepV K (AN A) N H (erase H a):=by
 obtain⟨v,_,rfl,nb,oc⟩:=R.sl i _ hi
 have hs:Same (erase H a) H:=fun b o h=>by
  by_cases e:b=a
  ·rw[e,zax] at h;cases h
  ·rw[zag e] at h;exact h
 have kp:KeepV K (AN A) N H (erase H a):=by
  refine⟨fun b vs h=>?_,fun b o n h=>⟨fun z=>n (hN _ z),by rw[zag fun e=>n (by rw[e];exact .inr ⟨i,c,hi⟩)];exact h⟩⟩
  rcases h with h | h
  ·have nb:b≠a:=fun e=>by
    rw[e] at h
    rcases R.own_at ⟨i,c,hi⟩ with ⟨z,q⟩ | ⟨z,q⟩ | ⟨_,_,z,q⟩<;>(rcases h with h | ⟨o,h⟩<;>(rw[q] at h;cases h))
   exact .inl (h.imp (fun z=>by rw[zag nb];exact z) fun⟨o,z⟩=>⟨o,by rw[zag nb];exact z⟩)
  ·exact .inr h
 refine⟨⟨a,c,rfl,rfl,zax _ _,hs,?_⟩,kp⟩
 cases c with
 | lst xs=>obtain⟨vs,h1,h2⟩:=oc;exact⟨vs,h1,h2.imp kp⟩
 | dic xs=>obtain⟨vs,h1,h2⟩:=oc;exact⟨vs,h1,h2.imp kp⟩
 | ins _ _ _=>exact hld.elim
end
abbrev MT:=List PV→List (Str×PV)→(PV→List (Str×PV)→Prop)→Prop
def NP (B:Addr→Prop) (p:Addr):Addr→Prop:=fun a=>B a∨a=p
def PostM (fr:Bool) (K:PySem.W.Frag) (N:Addr→Prop) (p C dx:Addr) (H:Hp) (r:PV) (fs:List (Str×PV)) (v:V) (H':Hp):Prop:=if fr=true then ∃ H0 ws,But p H H0∧H0 p=some (.ins C dx ws)∧RFs K N H0 fs ws∧FrV K N H0 H' r v else ∃ ws,But p H H'∧H' p=some (.ins C dx ws)∧RFs K N H' fs ws∧RV K N H' r v
def spM (K:PySem.W.Frag) (C:Addr) (fr:Bool) (T:MT):Sp:=fun vs H Q _=>∃ B p dx fs ws xs us P,vs=.ref p::us∧(∀ a,B a→H a≠none)∧¬ B p∧H p=some (.ins C dx ws)∧RFs K (NP B p) H fs ws∧RVs K (NP B p) H xs us∧T xs fs P ∧
 ∀ r fs' v H',P r fs'→PostM fr K (NP B p) p C dx H r fs' v H'→Q v H'
def entryM (B:Addr→Prop) (N:List Str) (p C dx:Addr) (fs:List (Str×PV)) (xs:List PV):AS:=⟨B,some (.own p (.ins C dx fs))::(xs.map (fun x=>some (Sl.val x))++List.replicate (N.length-1-xs.length) none),none⟩
def selfP (p C dx:Addr) (P:PV→List (Str×PV)→Prop) (r:PV) (A:AS):Prop:=∃ fs,A.rho[0]?=some (some (.own p (.ins C dx fs)))∧P r fs
def endsM (fr:Bool) (p C dx:Addr) (P:PV→List (Str×PV)→Prop):UEnds:=⟨fun A=>fr=false∧selfP p C dx P .non A,fun r A=>fr=false∧selfP p C dx P r A,fun r A=>fr=true∧selfP p C dx P r A,fun _=>False,fun _=>False⟩
section
variable {K:PySem.W.Frag}{H:Hp}{B:Addr→Prop}{p C dx:Addr}{fs:List (Str×PV)}{ws:List (Str×V)}{xs:List PV}{us:List V}
theorem zbQ {N:List Str}{j:Nat}{s:Sl} (h:(entryM B N p C dx fs xs).rho[j]?=some (some s)):(j=0∧s=.own p (.ins C dx fs))∨∃ k x,j=k+1∧xs[k]?=some x∧s=.val x:=by
 cases j with
 | zero=>exact .inl ⟨rfl,by simpa [entryM] using h.symm⟩
 | succ k=>
  have h':(xs.map (fun x=>some (Sl.val x))++List.replicate (N.length-1-xs.length) none)[k]?=some (some s):=h
  by_cases hi:k<xs.length
  ·rw[List.getElem?_append_left (by simpa using hi),List.getElem?_map] at h'
   obtain⟨x,hx,e⟩:=Option.map_eq_some_iff.mp h'
   cases e
   exact .inr ⟨k,x,rfl,hx,rfl⟩
  ·rw[List.getElem?_append_right (by simpa using (Nat.le_of_not_lt hi)),List.getElem?_replicate] at h'
   split at h'<;>cases h'
theorem entryM_own {N:List Str}{a:Addr}:Own (entryM B N p C dx fs xs).rho a↔a=p:=by
 constructor
 ·rintro⟨j,c,h⟩
  rcases zbQ h with ⟨_,e⟩ | ⟨_,_,_,_,e⟩
  ·cases e;rfl
  ·cases e
 ·rintro rfl
  exact⟨0,_,rfl⟩
theorem entryM_an {N:List Str}{a:Addr}:AN (entryM B N p C dx fs xs) a↔NP B p a:=by
 unfold AN NP
 rw[entryM_own]
 exact Iff.rfl
theorem an_eq {N:List Str}:AN (entryM B N p C dx fs xs)=NP B p:=funext fun _=>propext entryM_an
theorem zdg {N:List Str} (dom:∀ a,B a→H a≠none) (nb:¬ B p) (hp:H p=some (.ins C dx ws)) (rf:RFs K (NP B p) H fs ws) (r:RVs K (NP B p) H xs us) (hl:xs.length+1≤N.length):Rep K H (start N (.ref p::us)) (entryM B N p C dx fs xs):=by
 have ll:=r.len
 refine⟨?_,?_,dom,?_,fun st h=>(nomatch h),?_⟩
 ·unfold start entryM
  simp
  omega
 ·intro j s h
  rcases zbQ h with ⟨rfl,rfl⟩ | ⟨k,x,rfl,hx,rfl⟩
  ·refine⟨.ref p,by simp [start],rfl,nb,ws,hp,?_⟩
   rw[an_eq]
   exact rf
  ·obtain⟨v,hv,rv⟩:=r.at hx
   have hk:k<us.length:=(List.getElem?_eq_some_iff.mp hv).1
   refine⟨v,?_,by show RV K (AN _) H x v;rw[an_eq];exact rv⟩
   unfold start
   simp [List.getElem?_append_left,hk,hv]
   exact(List.getElem?_eq_some_iff.mp hv).2
 ·intro i j a c c' h1 h2
  rcases zbQ h1 with ⟨rfl,e1⟩ | ⟨_,_,_,_,e1⟩
  ·rcases zbQ h2 with ⟨rfl,e2⟩ | ⟨_,_,_,_,e2⟩
   ·rfl
   ·cases e2
  ·cases e1
 ·intro i a c st h1 h2
  cases h2
end
end L2
namespace L2
open PySem PySem.Spec PyProof.Rows
section
variable {P:Program}{w:World}{K:PySem.W.Frag}{mg:Str→Option Value}{base:Heap}
theorem Fun.okM {x qual:Str}{st:Stmt}{f C:Addr}{fd:FuncData}{N ps:List Str}{k:Nat}{fr:Bool}{T:MT} (F:Fun K x qual st f fd) (S:FnScope N ps (defScope st)) (len:∀ xs fs P,T xs fs P→xs.length+1=ps.length) (lN:ps.length≤N.length)
  (hbody:∀ (cdv:Value) (A:Around) (outer:List Env) (s:Shared) (H:Hp) (E:XK),Room k (A.deeper (envOfC qual (defScope st) s.heap.objs.size f cdv)) →
   ∃ u,PSs (cxOf CX0 P w K mg base N qual (defScope st) f cdv A outer s H E).nox (defBody st) (liftS K u)∧∀ B p dx xs fs P,T xs fs P→u (endsM fr p C dx P) (entryM B N p C dx fs xs)):FnOk P w K mg base CX0 (k+1) f fd ps (spM K C fr T):=by
 refine F.ok S (fun vs H Q E h=>?_) fun cdv A outer s H vs Q E hr h=>?_
 ·obtain⟨B,p,dx,fs,ws,xs,us,P,rfl,_,_,_,_,rv,g,_⟩:=h
  rw[List.length_cons,← rv.len]
  exact len xs fs P g
 obtain⟨B,p,dx,fs,ws,xs,us,P,rfl,dom,nb,hp,rf,rv,g,fin⟩:=h
 obtain⟨u,hu,q⟩:=hbody cdv A outer s H E hr
 have R0:=zdg (N:=N) dom nb hp rf rv (by rw[len xs fs P g];exact lN)
 have same:∀ {A1:AS}{H1:Hp},Stp (entryM B N p C dx fs xs) H A1 H1→But p H H1:=fun S1 b o h n=>S1.fr b o h fun m=>m.elim (fun z=>n (entryM_own.mp z)) fun⟨st,z,_⟩=>by cases z
 have npa:∀ {A1:AS}{H1:Hp}{fs':List (Str×PV)},Stp (entryM B N p C dx fs xs) H A1 H1→A1.rho[0]?=some (some (.own p (.ins C dx fs')))→∀ a,NP B p a→AN A1 a:=fun S1 e a h=>h.elim (fun z=>.inl (by rw[S1.b];exact z)) fun z=>.inr (z▸⟨0,_,e⟩)
 have wk:∀ {A1:AS}{H1:Hp}{fs':List (Str×PV)},Stp (entryM B N p C dx fs xs) H A1 H1→A1.rho[0]?=some (some (.own p (.ins C dx fs')))→KeepV K (AN A1) (NP B p) H1 H1:=fun S1 e=>⟨fun _ _ h=>h,fun a o n q=>⟨fun z=>n (npa S1 e a z),q⟩⟩
 refine⟨_,hu,entryM B N p C dx fs xs,endsM fr p C dx P,R0,q B p dx xs fs P g,?_,?_,?_,?_,?_,?_⟩
 ·rintro A1 σ1 H1 ⟨rfl,fs',e,p'⟩ R1 S1
  obtain⟨v,_,_,_,ws',h1,h2⟩:=R1.sl 0 _ e
  exact fin _ fs' _ _ p' ⟨ws',same S1,h1,h2.imp (wk S1 e),.non⟩
 ·rintro r' A1 σ1 v H1 ⟨rfl,fs',e,p'⟩ R1 S1 rv'
  obtain⟨_,_,_,_,ws',h1,h2⟩:=R1.sl 0 _ e
  exact fin _ fs' _ _ p' ⟨ws',same S1,h1,h2.imp (wk S1 e),rv'.imp (wk S1 e)⟩
 ·rintro r' A1 σ1 v H0 H1 ⟨rfl,fs',e,p'⟩ R1 S1 f
  obtain⟨_,_,_,_,ws',h1,h2⟩:=R1.sl 0 _ e
  exact fin _ fs' _ _ p' ⟨H0,ws',same S1,h1,h2.imp (wk S1 e),f.weak (npa S1 e)⟩
 ·rintro i a c A1 σ1 H1 hi hld ⟨rfl,fs',e,p'⟩ R1 S1
  have ni:i≠0:=fun z=>by
   subst z
   rcases zaj e with ⟨_,z⟩ | ⟨n,_⟩
   ·cases z
   ·exact n rfl
  have e0:A1.rho[0]?=some (some (.own p (.ins C dx fs'))):=by
   rcases zaj e with ⟨z,_⟩ | ⟨_,z⟩
   ·exact absurd z ni
   ·exact z
  obtain⟨_,_,_,_,ws',h1,h2⟩:=R1.sl 0 _ e0
  have npa':p≠a:=fun z=>ni (R1.nd i 0 _ _ _ hi (by rw[← z];exact e0))
  obtain⟨f,kp⟩:=R1.own_newN hi hld (npa S1 e0)
  have ha:H a=none:=(S1.ow a ⟨i,c,hi⟩).elim (fun y=>absurd (entryM_own.mp y).symm npa') id
  refine fin _ fs' _ _ p' ⟨_,ws',fun b o h n=>?_,by rw[zag npa'];exact h1,h2.imp kp,f⟩
  rw[zag fun z=>by rw[z,ha] at h;cases h]
  exact same S1 b o h n
 ·rintro A1 σ1 H1 h
  exact h.elim
 ·rintro A1 σ1 H1 h
  exact h.elim
structure DfM (K:PySem.W.Frag) (C:Addr) (m qual:Str) (st:Stmt):Prop where
 ex:∃ f fd,Fun K m qual st f fd∧Meth K C m f
structure KnM (P:Program) (w:World) (K:PySem.W.Frag) (mg:Str→Option Value) (base:Heap) (k:Nat) (C:Addr) (m:Str) (sp:Sp):Prop where
 ex:∃ f fd ps,FnOk P w K mg base CX0 k f fd ps sp∧Binds K fd ps []∧Meth K C m f
theorem KnM.mono {j k:Nat}{C:Addr}{x:Str}{sp:Sp} (h:KnM P w K mg base j C x sp) (l:j≤k):KnM P w K mg base k C x sp:=by
 obtain⟨f,fd,ps,F,r⟩:=h.ex
 exact⟨f,fd,ps,F.mono l,r⟩
theorem DfM.okM {x qual:Str}{st:Stmt}{C:Addr}{N ps:List Str}{k:Nat}{fr:Bool}{T:MT} (D:DfM K C x qual st) (S:FnScope N ps (defScope st))
  (bd:∀ (kV doc pm:Value) (an:Option Addr) (cdv ct:Value) (us:List Value),us.length=ps.length→bindArgs (PySem.W.fnOf x qual (defArgs st) (defBody st) (defScope st) .none kV doc pm an cdv ct) ⟨us,[]⟩=pure (ps.zip us))
  (len:∀ xs fs P,T xs fs P→xs.length+1=ps.length) (lN:ps.length≤N.length)
  (hbody:∀ (f:Addr) (cdv:Value) (A:Around) (outer:List Env) (s:Shared) (H:Hp) (E:XK),Room k (A.deeper (envOfC qual (defScope st) s.heap.objs.size f cdv)) →
   ∃ u,PSs (cxOf CX0 P w K mg base N qual (defScope st) f cdv A outer s H E).nox (defBody st) (liftS K u)∧∀ B p dx xs fs P,T xs fs P→u (endsM fr p C dx P) (entryM B N p C dx fs xs)):KnM P w K mg base (k+1) C x (spM K C fr T):=by
 obtain⟨f,fd,F,hm⟩:=D.ex
 exact⟨f,fd,ps,F.okM S len lN (hbody f),F.binds bd,hm⟩
end
def insO (C:Addr) (s:Option (Option Sl)) (F:Addr→Addr→List (Str×PV)→AS→Prop) (A:AS):Prop:=match s with
 | some (some (.own p (.ins C' dx fs)))=>C'=C∧F p dx fs A
 | _=>False
theorem insO_o {C p dx:Addr}{fs:List (Str×PV)}{F:Addr→Addr→List (Str×PV)→AS→Prop}{A:AS}:insO C (some (some (.own p (.ins C dx fs)))) F A=F p dx fs A:=propext ⟨fun h=>h.2,fun h=>⟨rfl,h⟩⟩
theorem zaI {C:Addr}{s:Option (Option Sl)}{F:Addr→Addr→List (Str×PV)→AS→Prop}{A:AS} (h:insO C s F A):∃ p dx fs,s=some (some (.own p (.ins C dx fs)))∧F p dx fs A:=by
 unfold insO at h
 split at h
 ·obtain⟨rfl,h⟩:=h;exact⟨_,_,_,rfl,h⟩
 ·exact h.elim
def methK (T:MT) (p C dx:Addr) (i:Nat) (xs:List PV) (Q:PV→AS→Prop) (A:AS):Prop:=insO C A.rho[i]? (fun p' dx' fs A=>p'=p∧dx'=dx∧T xs fs fun r fs'=>Q r (put A i (.own p (.ins C dx fs')))) A
def uMeth (C:Addr) (i:Nat) (m:Str) (T:MT) (ua:UA):UE:=fun A Q=>insO C A.rho[i]? (fun p dx fs A=>fs.lookup m=none∧ua A fun xs A1=>methK T p C dx i xs Q A1) A
def uFld (C:Addr) (i:Nat) (f:Str):UE:=fun A Q=>insO C A.rho[i]? (fun _ _ fs A=>ex1 (fun x=>fs.lookup f=some x) Q A) A
def fldPutK (C:Addr) (i:Nat) (f:Str) (nx:AS→Prop) (r:PV) (A:AS):Prop:=insO C A.rho[i]? (fun p dx fs A=>fs.length<1000∧nx (put A i (.own p (.ins C dx (putP f r fs))))) A
def uFldPut (C:Addr) (i:Nat) (f:Str) (ue:UE):US:=fun E A=>ue A fun r A1=>fldPutK C i f E.nx r A1
def uFldAug (C:Addr) (i:Nat) (f:Str) (g:Int→Int→Int) (ue:UE):US:=fun E A=>insO C A.rho[i]? (fun p dx fs A=>ex1 (fun n=>fs.lookup f=some (.int n)) (fun n A=>ue A fun r A1=>∃ m,r=.int m∧insO C A1.rho[i]? (fun p' dx' fs' A=>p'=p∧dx'=dx∧fs'.length<1000∧E.nx (put A i (.own p (.ins C dx (putP f (.int (g n m)) fs'))))) A1) A) A
def uMake (C:Addr) (i:Nat) (T:MT) (ua:UA):US:=fun E A=>ua A fun xs A1=>T xs [] fun r fs=>r=.non∧∀ p dx,E.nx (put A1 i (.own p (.ins C dx fs)))
section
variable {B:Addr→Prop}{rho:List (Option Sl)}{S:Option SSt}{C p dx:Addr}{i:Nat}{m f:Str}{T:MT}{ua:UA}{ue:UE}{QV:PV→AS→Prop}{E:UEnds}{g:Int→Int→Int}{nx:AS→Prop}{r:PV}{xs:List PV}
theorem uMeth_c:uMeth C i m T ua ⟨B,rho,S⟩ QV=insO C rho[i]? (fun p dx fs A=>fs.lookup m=none∧ua A fun xs A1=>methK T p C dx i xs QV A1) ⟨B,rho,S⟩:=rfl
theorem methK_c:methK T p C dx i xs QV ⟨B,rho,S⟩=insO C rho[i]? (fun p' dx' fs A=>p'=p∧dx'=dx∧T xs fs fun r fs'=>QV r (put A i (.own p (.ins C dx fs')))) ⟨B,rho,S⟩:=rfl
theorem uFld_c:uFld C i f ⟨B,rho,S⟩ QV=insO C rho[i]? (fun _ _ fs A=>ex1 (fun x=>fs.lookup f=some x) QV A) ⟨B,rho,S⟩:=rfl
theorem zez:fldPutK C i f nx r ⟨B,rho,S⟩=insO C rho[i]? (fun p dx fs A=>fs.length<1000∧nx (put A i (.own p (.ins C dx (putP f r fs))))) ⟨B,rho,S⟩:=rfl
theorem zed:uFldPut C i f ue E ⟨B,rho,S⟩=ue ⟨B,rho,S⟩ fun r A1=>fldPutK C i f E.nx r A1:=rfl
theorem zee:uFldAug C i f g ue E ⟨B,rho,S⟩=insO C rho[i]? (fun p dx fs A=>ex1 (fun n=>fs.lookup f=some (.int n)) (fun n A=>ue A fun r A1=>∃ m,r=.int m∧insO C A1.rho[i]? (fun p' dx' fs' A=>p'=p∧dx'=dx∧fs'.length<1000∧E.nx (put A i (.own p (.ins C dx (putP f (.int (g n m)) fs'))))) A1) A) ⟨B,rho,S⟩:=rfl
theorem uMake_c:uMake C i T ua E ⟨B,rho,S⟩=ua ⟨B,rho,S⟩ fun xs A1=>T xs [] fun r fs=>r=.non∧∀ p dx,E.nx (put A1 i (.own p (.ins C dx fs))):=rfl
end
section
variable {X:Cx}{K:PySem.W.Frag}{k:Nat}{x m f:Str}{pn pos apos:Pos}{e:Expr}{es:List Expr}{ua:UA}{ue:UE}{T:MT}{C:Addr}
theorem zfx {fr:Bool}{A1:AS}{H1:Hp}{σ:St}{Q:VK}{E:XK}{i:Nat}{p dx:Addr}{fs:List (Str×PV)}{xs:List PV}{vs:List V}{P:PV→List (Str×PV)→Prop} (R1:Rep K H1 σ A1) (hi:A1.rho[i]?=some (some (.own p (.ins C dx fs)))) (rs:RVs K (AN A1) H1 xs vs) (t:T xs fs P)
  (fin:∀ r fs' v H',P r fs'→PostM fr K (AN A1) p C dx H1 r fs' v H'→Q v H'):spM K C fr T (.ref p::vs) H1 Q E:=by
 obtain⟨_,_,_,nb,ws,h1,h2⟩:=R1.sl i _ hi
 have np:NP (fun a=>AN A1 a∧a≠p) p=AN A1:=funext fun a=>propext ⟨fun h=>h.elim (fun z=>z.1) fun z=>.inr (z▸⟨i,_,hi⟩),fun h=>by
  by_cases z:a=p
  ·exact .inr z
  ·exact .inl ⟨h,z⟩⟩
 refine⟨fun a=>AN A1 a∧a≠p,p,dx,fs,ws,xs,vs,P,rfl,fun a h=>R1.dom' a h.1,fun h=>h.2 rfl,h1,by rw[np];exact h2,by rw[np];exact rs,t,fun r fs' v H' q po=>fin r fs' v H' q (by rw[np] at po;exact po)⟩
theorem zch {pl:Sem Bool} (hK:X.K=K) (i:Nat) (c:Cls K C) (F:KnM X.prog X.w X.K X.mg X.base k C m (spM K C false T)) (hr:Room k X.A) (ha:PA X (e::es) (liftA K ua)) (hN:X.N[i]?=some x:=by rfl) (hv:Vis X.env.scope x:=by first | exact Or.inl rfl | exact Or.inr (Or.inl rfl) | exact Or.inr (Or.inr rfl)) (hd:(x==("__debug__":Str))=false:=by decide) (hcd:(x==("__classdict__":Str))=false:=by decide)
  (hst:starEach (e::es) X.env=(false,eval e X.env)::starEach es X.env:=by rfl) (hpl:(backTo pos (starEach es X.env)).any (·.1)=false:=by rfl)
  (ht:eval (.Call (.Attribute (.Name x pn) m apos) (e::es) [] pos) X.env=(do
   let ov ← eval (.Name x pn) X.env
   standAt apos.atName
   let (f,first) ← holding [ov] (getMethod ov m pl)
   callWith pos f first (backTo pos (starEach (e::es) X.env)) (backToKw pos (keywordEach [] X.env))):=by rfl) :
  PE X (.Call (.Attribute (.Name x pn) m apos) (e::es) [] pos) (liftV K (uMeth C i m T ua)):=by
 obtain⟨f,fd,ps,F1,b,hm⟩:=F.ex
 refine(zdC (pl:=pl) (zat (i:=i) hN hv hd hcd) (hK▸c) hm F1 hr b .nil zbO ha hst hpl ht).mono fun σ H Q ⟨A,P,R,h,c⟩=>?_
 obtain⟨p,dx,fs,hi,hl,h⟩:=zaI h
 obtain⟨v,ev,rfl,_,ws,h1,h2⟩:=R.sl i _ hi
 refine⟨_,ev,p,dx,ws,rfl,h1,zbr h2.1 m hl,A,_,R,h,fun xs A1 vs H1 q R1 S1 rs=>?_⟩
 obtain⟨p',dx',fs1,hi1,rfl,rfl,t⟩:=zaI q
 rw[List.append_nil]
 refine zfx R1 hi1 rs t fun r fs' v H' q po=>?_
 obtain⟨ws',bt,h3,h4,rv⟩:=po
 obtain⟨R2,S2⟩:=R1.turnC hi1 (c':=.ins C dx' fs') bt ⟨ws',h3,h4⟩
 exact c r _ v H' q R2 (S1.trans S2) (rv.imp ⟨fun _ _ h=>h,fun a o n e=>⟨fun z=>n (z.elim .inl fun⟨j,cc,y⟩=>.inr (by
  rcases zaj y with ⟨_,y⟩ | ⟨_,y⟩
  ·cases y;exact⟨i,_,hi1⟩
  ·exact⟨j,cc,y⟩)),e⟩⟩)
end
end L2
namespace L2
open PySem PySem.Spec PyProof.Rows
section
variable {X:Cx}{K:PySem.W.Frag}{k:Nat}{x m f:Str}{pn pos apos:Pos}{e value:Expr}{es:List Expr}{ua:UA}{ue:UE}{T:MT}{C:Addr}
theorem zft {A1:AS}{i:Nat}{p:Addr}{c c':OC} (hi:A1.rho[i]?=some (some (.own p c))){H:Hp}:KeepV K (AN A1) (AN (put A1 i (.own p c'))) H H:=⟨fun _ _ h=>h,fun a o n e=>⟨fun z=>n (z.elim .inl fun⟨j,cc,y⟩=>.inr (by
  rcases zaj y with ⟨_,y⟩ | ⟨_,y⟩
  ·cases y;exact⟨i,_,hi⟩
  ·exact⟨j,cc,y⟩)),e⟩⟩
theorem FrV.imp {N N':Addr→Prop}{H0 H1:Hp}{r:PV}{v:V} (f:FrV K N H0 H1 r v) (kp:KeepV K N N' H0 H0):FrV K N' H0 H1 r v:=by
 obtain⟨p,c,e1,e2,hp,s,hc⟩:=f
 refine⟨p,c,e1,e2,hp,s,?_⟩
 cases c with
 | lst xs=>obtain⟨vs,h1,h2⟩:=hc;exact⟨vs,h1,h2.imp kp⟩
 | dic xs=>obtain⟨vs,h1,h2⟩:=hc;exact⟨vs,h1,h2.imp kp⟩
 | ins _ _ _=>exact hc.elim
theorem e_methF {pl:Sem Bool} (hK:X.K=K) (i:Nat) (c:Cls K C) (F:KnM X.prog X.w X.K X.mg X.base k C m (spM K C true T)) (hr:Room k X.A) (ha:PA X (e::es) (liftA K ua)) (hN:X.N[i]?=some x:=by rfl) (hv:Vis X.env.scope x:=by first | exact Or.inl rfl | exact Or.inr (Or.inl rfl) | exact Or.inr (Or.inr rfl)) (hd:(x==("__debug__":Str))=false:=by decide) (hcd:(x==("__classdict__":Str))=false:=by decide)
  (hst:starEach (e::es) X.env=(false,eval e X.env)::starEach es X.env:=by rfl) (hpl:(backTo pos (starEach es X.env)).any (·.1)=false:=by rfl)
  (ht:eval (.Call (.Attribute (.Name x pn) m apos) (e::es) [] pos) X.env=(do
   let ov ← eval (.Name x pn) X.env
   standAt apos.atName
   let (f,first) ← holding [ov] (getMethod ov m pl)
   callWith pos f first (backTo pos (starEach (e::es) X.env)) (backToKw pos (keywordEach [] X.env))):=by rfl) :
  PE X (.Call (.Attribute (.Name x pn) m apos) (e::es) [] pos) (liftF K (uMeth C i m T ua)):=by
 obtain⟨f,fd,ps,F1,b,hm⟩:=F.ex
 refine(zdC (pl:=pl) (zat (i:=i) hN hv hd hcd) (hK▸c) hm F1 hr b .nil zbO ha hst hpl ht).mono fun σ H Q ⟨A,P,R,h,c⟩=>?_
 obtain⟨p,dx,fs,hi,hl,h⟩:=zaI h
 obtain⟨v,ev,rfl,_,ws,h1,h2⟩:=R.sl i _ hi
 refine⟨_,ev,p,dx,ws,rfl,h1,zbr h2.1 m hl,A,_,R,h,fun xs A1 vs H1 q R1 S1 rs=>?_⟩
 obtain⟨p',dx',fs1,hi1,rfl,rfl,t⟩:=zaI q
 rw[List.append_nil]
 refine zfx R1 hi1 rs t fun r fs' v H' q po=>?_
 obtain⟨H0,ws',bt,h3,h4,fv⟩:=po
 obtain⟨R2,S2⟩:=R1.turnC hi1 (c':=.ins C dx' fs') bt ⟨ws',h3,h4⟩
 exact c r _ v H0 H' q R2 (S1.trans S2) (fv.imp (zft hi1))
theorem zdS {pl:Sem Bool} (hK:X.K=K) (i:Nat) (c:Cls K C) (F:KnM X.prog X.w X.K X.mg X.base k C m (spM K C true T)) (hr:Room k X.A) (hN:X.N[i]?=some x:=by rfl) (hv:Vis X.env.scope x:=by first | exact Or.inl rfl | exact Or.inr (Or.inl rfl) | exact Or.inr (Or.inr rfl)) (hd:(x==("__debug__":Str))=false:=by decide) (hcd:(x==("__classdict__":Str))=false:=by decide)
  (ht:eval (.Call (.Attribute (.Name x pn) m apos) [] [] pos) X.env=(do
   let ov ← eval (.Name x pn) X.env
   standAt apos.atName
   let (f,first) ← holding [ov] (getMethod ov m pl)
   callWith pos f first (backTo pos (starEach [] X.env)) (backToKw pos (keywordEach [] X.env))):=by rfl) :
  PE X (.Call (.Attribute (.Name x pn) m apos) [] [] pos) (liftF K (uMeth C i m T uNil)):=by
 obtain⟨f,fd,ps,F1,b,hm⟩:=F.ex
 refine(zfC (pl:=pl) (zat (i:=i) hN hv hd hcd) (hK▸c) hm F1 hr b .nil zbO ht).mono fun σ H Q ⟨A,P,R,h,c⟩=>?_
 obtain⟨p,dx,fs,hi,hl,q⟩:=zaI h
 obtain⟨v,ev,rfl,_,ws,h1,h2⟩:=R.sl i _ hi
 refine⟨_,ev,p,dx,ws,rfl,h1,zbr h2.1 m hl,?_⟩
 obtain⟨p',dx',fs1,hi1,rfl,rfl,t⟩:=zaI (show methK T p C dx i [] P A from q)
 show spM K C true T [.ref p'] H Q E0
 refine zfx R hi1 .nil t fun r fs' v H' q po=>?_
 obtain⟨H0,ws',bt,h3,h4,fv⟩:=po
 obtain⟨R2,S2⟩:=R.turnC hi1 (c':=.ins C dx' fs') bt ⟨ws',h3,h4⟩
 exact c r _ v H0 H' q R2 S2 (fv.imp (zft hi1))
theorem zcV (hK:X.K=K) (i:Nat) (c:Cls K C) (n:NoAttr K C f) (hN:X.N[i]?=some x:=by rfl) (hv:Vis X.env.scope x:=by first | exact Or.inl rfl | exact Or.inr (Or.inl rfl) | exact Or.inr (Or.inr rfl)) (hd:(x==("__debug__":Str))=false:=by decide) (hcd:(x==("__classdict__":Str))=false:=by decide)
  (hb:attributeBase (.Name x pn) f X.env (eval (.Name x pn) X.env)=eval (.Name x pn) X.env:=by rfl):PE X (.Attribute (.Name x pn) f pos) (liftV K (uFld C i f)):=by
 subst hK
 refine(pe_fld (zat (i:=i) hN hv hd hcd) hb).mono fun σ H Q ⟨A,P,R,h,k⟩=>?_
 obtain⟨p,dx,fs,hi,y,hy,q⟩:=zaI h
 obtain⟨v,ev,rfl,_,ws,h1,h2⟩:=R.sl i _ hi
 obtain⟨v,hv,rv⟩:=h2.look hy
 exact⟨_,ev,p,C,dx,ws,v,rfl,h1,c,n,hv,k y A v H q R (Stp.refl A H) rv⟩
theorem s_fld (hK:X.K=K) (i:Nat) (c:Cls K C) (n:NoAttr K C f) (he:PE X value (liftV K ue)) (hN:X.N[i]?=some x:=by rfl) (hv:Vis X.env.scope x:=by first | exact Or.inl rfl | exact Or.inr (Or.inl rfl) | exact Or.inr (Or.inr rfl)) (hd:(x==("__debug__":Str))=false:=by decide) (hcd:(x==("__classdict__":Str))=false:=by decide)
  (hs:swapsWith value (some (.Attribute (.Name x pn) f apos)) pos.line X.env=pure false:=by rfl):PS X (.Assign [.Attribute (.Name x pn) f apos] value pos) (liftS K (uFldPut C i f ue)):=by
 subst hK
 refine(ps_fld (zat (i:=i) hN hv hd hcd) he hs).mono fun D σ H ⟨A,E,R,h,k⟩=>⟨A,_,R,h,fun r A1 v H1 q R1 S1 rv=>?_⟩
 obtain⟨p,dx,fs,hi,hl,q⟩:=zaI q
 obtain⟨_,ev,rfl,_,ws,h1,h2⟩:=R1.sl i _ hi
 refine⟨_,ev,p,C,dx,ws,rfl,h1,c,n,by rw[← h2.len];exact hl,?_⟩
 have bt:But p H1 (upd H1 p (.ins C dx (putF f v ws))):=fun b o h n=>by rw[zac n];exact h
 have kp:KeepV X.K (AN A1) (AN A1) H1 (upd H1 p (.ins C dx (putF f v ws))):=⟨fun a us h=>by
   rcases h with h | h
   ·refine .inl (zdt (n:=a=p) (fun o e m=>bt a o e m) (fun e=>?_) h)
    subst e
    rcases h with h | ⟨o,h⟩<;>(rw[h1] at h;cases h)
   ·exact .inr h,fun a o nn e=>⟨nn,bt a o e fun z=>nn (.inr (z▸⟨i,_,hi⟩))⟩⟩
 obtain⟨R2,S2⟩:=R1.turnC hi (c':=.ins C dx (putP f r fs)) bt ⟨_,zab,(h2.put f rv).imp kp⟩
 exact k.nx _ _ _ q R2 (S1.trans S2)
theorem zfy {op:Operator}{g:Int→Int→Int}{rd:V→V→Hp→VK→Prop} (hop:InOp X op rd) (hrd:∀ a b H Q,Q (.int (g a b)) H→rd (.int a) (.int b) H Q) (hK:X.K=K) (i:Nat) (c:Cls K C) (n:NoAttr K C f) (he:PE X value (liftV K ue)) (hN:X.N[i]?=some x:=by rfl) (hv:Vis X.env.scope x:=by first | exact Or.inl rfl | exact Or.inr (Or.inl rfl) | exact Or.inr (Or.inr rfl)) (hd:(x==("__debug__":Str))=false:=by decide) (hcd:(x==("__classdict__":Str))=false:=by decide) :
  PS X (.AugAssign (.Attribute (.Name x pn) f apos) op value pos) (liftS K (uFldAug C i f g ue)):=by
 subst hK
 refine(ps_fldaug (zat (i:=i) hN hv hd hcd) he hop).mono fun D σ H ⟨A,E,R,h,k⟩=>?_
 obtain⟨p,dx,fs,hi,y,hy,h⟩:=zaI h
 obtain⟨_,ev,rfl,_,ws,h1,h2⟩:=R.sl i _ hi
 obtain⟨v,hv,rv⟩:=h2.look hy
 cases rv
 refine⟨_,ev,p,C,dx,ws,_,rfl,h1,c,n,hv,A,_,R,h,fun r A1 v H1 q R1 S1 rv=>?_⟩
 obtain⟨m,rfl,q⟩:=q
 cases rv
 obtain⟨p',dx',fs',hi1,rfl,rfl,hl,q⟩:=zaI q
 obtain⟨_,ev,z,_,ws1,g1,g2⟩:=R1.sl i _ hi1
 refine hrd _ _ _ _ ⟨dx',ws1,g1,by rw[← g2.len];exact hl,?_⟩
 have bt:But p' H1 (upd H1 p' (.ins C dx' (putF f (.int (g y m)) ws1))):=fun b o h n=>by rw[zac n];exact h
 have kp:KeepV X.K (AN A1) (AN A1) H1 (upd H1 p' (.ins C dx' (putF f (.int (g y m)) ws1))):=⟨fun a us h=>by
   rcases h with h | h
   ·refine .inl (zdt (n:=a=p') (fun o e m=>bt a o e m) (fun e=>?_) h)
    rw[e] at h
    rcases h with h | ⟨o,h⟩<;>(rw[g1] at h;cases h)
   ·exact .inr h,fun a o nn e=>⟨nn,bt a o e fun z=>nn (.inr (z▸⟨i,_,hi1⟩))⟩⟩
 obtain⟨R2,S2⟩:=R1.turnC hi1 (c':=.ins C dx' (putP f (.int (g y m)) fs')) bt ⟨_,zab,(g2.put f (.int _)).imp kp⟩
 exact k.nx _ _ _ q R2 (S1.trans S2)
structure KnI (P:Program) (w:World) (K:PySem.W.Frag) (mg:Str→Option Value) (base:Heap) (k:Nat) (y:Str) (C:Addr) (sp:Sp):Prop where
 ex:∃ f fd ps,FnOk P w K mg base CX0 k f fd ps sp∧Binds K fd ps []∧Mk K C f∧mg y=some (.ref C)
theorem s_make {i:Nat}{y:Str}{pos' p:Pos} (hK:X.K=K) (F:KnI X.prog X.w X.K X.mg X.base k y C (spM K C false T)) (hr:Room (k+1) X.A) (hN:X.N.Nodup) (ha:PA X (e::es) (liftA K ua)) (hi:X.N[i]?=some x:=by rfl) (hx:Loc X.env.scope x:=by first | exact Or.inl rfl | exact Or.inr rfl)
  (hs:swapsWith (.Call (.Name y p) (e::es) [] apos) (some (.Name x pos')) pos.line X.env=pure false:=by rfl) (hf:X.fn x=true∨X.env.scope.names.lookup x=some .local:=by first | exact .inl rfl | exact .inr rfl | assumption)
  (hg:Gl X y:=by rfl) (hdb:(y==("__debug__":Str))=false:=by decide) (he:starEach (e::es) X.env=(false,eval e X.env)::starEach es X.env:=by rfl) (hpl:(backTo apos (starEach es X.env)).any (·.1)=false:=by rfl) :
  PS X (.Assign [.Name x pos'] (.Call (.Name y p) (e::es) [] apos) pos) (liftS K (uMake C i T ua)):=by
 subst hK
 obtain⟨f,fd,ps,F1,b,M,hm⟩:=F.ex
 refine(zaM (i:=i) hN hi hx (pe_make M F1 hr hg hm b .nil zbO ha hdb he hpl) hs hf).mono fun D σ H ⟨A,E,R,h,c⟩=>⟨A,_,R,h,fun xs A1 vs H1 t R1 S1 rs p dx hp hdx nx=>?_⟩
 rw[List.append_nil]
 have np:=R1.new hp
 have s2:Same H1 (upd (upd H1 dx (.own p)) p (.ins C dx [])):=fun b o e=>by rw[zac (zae e hp),zac (zae e hdx)];exact e
 have kp0:KeepV X.K (AN A1) (NP (AN A1) p) H1 (upd (upd H1 dx (.own p)) p (.ins C dx [])):=⟨(zan (K:=X.K) (N:=AN A1) s2).t,fun a o n e=>⟨fun z=>z.elim n fun y=>(zae e hp) y,s2 a o e⟩⟩
 refine⟨AN A1,p,dx,[],[],xs,vs,_,rfl,fun a h z=>?_,np,zab,⟨rfl,.nil⟩,rs.imp kp0,t,fun r fs v H' q po=>?_⟩
 ·by_cases e:a=p
  ·exact np (e▸h)
  ·rw[zac e] at z
   by_cases e2:a=dx
   ·rw[e2,zab] at z;cases z
   ·rw[zac e2] at z;exact R1.dom' a h z
 obtain⟨rfl,q⟩:=q
 obtain⟨ws,bt,h3,h4,rv⟩:=po
 cases rv
 refine⟨rfl,?_⟩
 have se:Same (erase H' p) H':=fun b o h=>by
  by_cases e:b=p
  ·rw[e,zax] at h;cases h
  ·rw[zag e] at h;exact h
 have s3:Same H1 (erase H' p):=fun b o e=>by
  have nb:=zae e hp
  rw[zag nb]
  exact bt b o (s2 b o e) nb
 have kp:KeepV X.K (NP (AN A1) p) (AN A1) H' (erase H' p):=⟨fun a us h=>by
   rcases h with h | h
   ·have na:a≠p:=fun e=>by
     subst e
     rcases h with h | ⟨o,h⟩<;>(rw[h3] at h;cases h)
    exact .inl (h.imp (fun z=>by rw[zag na];exact z) fun⟨o,z⟩=>⟨o,by rw[zag na];exact z⟩)
   ·exact .inr h,fun a o n e=>⟨fun z=>n (.inl z),by rw[zag fun z=>n (.inr z)];exact e⟩⟩
 obtain⟨R3,S3⟩:=(R1.same s3).freshC (i:=i) (c':=.ins C dx fs) (zax H' p) se ⟨ws,h3,h4.imp kp⟩
 exact c.nx _ _ _ (q p dx) R3 (S1.trans ((Stp.same A1 s3).trans S3))
theorem e_ifF {c a b:Expr}{t:UT}{ua ub:UE} (hc:PT X c (liftT K t)) (ha:PE X a (liftF K ua)) (hb:PE X b (liftF K ub)):PE X (.IfExp c a b pos) (liftF K (uIfE t ua ub)):=(zfD hc ha hb).mono fun σ H Q ⟨A,P,R,h,c⟩=>
 ⟨A,_,R,h,fun k A1 H1 p1 R1 S1=>by
  cases k with
  | true=>exact iteT ⟨A1,P,R1,p1,fun b A2 v H0 H2 p2 R2 S2 r2=>c b A2 v H0 H2 p2 R2 (S1.trans S2) r2⟩
  | false=>exact iteF ⟨A1,P,R1,p1,fun b A2 v H0 H2 p2 R2 S2 r2=>c b A2 v H0 H2 p2 R2 (S1.trans S2) r2⟩⟩
end
end L2
namespace L2
open PySem PySem.Spec PyProof.Rows
def sortK (G:Rel) (xs:List PV) (Q:PV→AS→Prop) (A:AS):Prop:=∃ ky r,KeysOk xs ky r∧(∀ x∈xs,G [x] (ky x))∧∀ p:Array Nat,KS.Pm xs.length p→KS.Asc r p xs.length→Q (.lst (p.toList.map fun i=>xs.getD i .non)) A
def uSortK (G:Rel) (ue:UE):UE:=fun A Q=>ue A fun x A1=>∃ xs,x=.lst xs∧sortK G xs Q A1
theorem zfu {G:Rel}{ue:UE}{B:Addr→Prop}{rho:List (Option Sl)}{S:Option SSt}{Q:PV→AS→Prop}:uSortK G ue ⟨B,rho,S⟩ Q=ue ⟨B,rho,S⟩ fun x A1=>∃ xs,x=.lst xs∧sortK G xs Q A1:=rfl
theorem RVs.picks {K:PySem.W.Frag}{N:Addr→Prop}{H:Hp}{xs:List PV}{vs:List V} (h:RVs K N H xs vs):∀ l:List Nat,(∀ i∈l,i<xs.length)→RVs K N H (l.map fun i=>xs.getD i .non) (l.map fun i=>vs.getD i .non)
 | [],_=>.nil
 | i::l,hl=>by
  refine .cons ?_ (h.picks l fun j hj=>hl j (by simp [hj]))
  have hi:=hl i (by simp)
  have hx:xs[i]?=some xs[i]:=List.getElem?_eq_getElem hi
  obtain⟨v,hv,r⟩:=h.at hx
  show RV K N H (xs.getD i .non) (vs.getD i .non)
  rw[List.getD_eq_getElem?_getD,List.getD_eq_getElem?_getD,hx,hv]
  exact r
theorem RVs.weakF {K:PySem.W.Frag}{N:Addr→Prop}{H:Hp}{xs:List PV}{vs:List V} (h:RVs K N H xs vs):RVs K F0 H xs vs:=h.imp ⟨fun _ _ h=>h,fun _ _ _ e=>⟨fun z=>z,e⟩⟩
section
variable {X:Cx}{K:PySem.W.Frag}{k:Nat}{g:Str}{p pos kp kpos:Pos}{e:Expr}{ue:UE}{G:Rel}
theorem e_sortK (hK:X.K=K) (hm:X.mg "sorted"=none) (F:Kn X.prog X.w X.K X.mg X.base k g (spV K false G)) (hr:Room (k+2) X.A) (he:PE X e (liftQ K ue)) (hg:Gl X "sorted":=by rfl) (hg2:Gl X g:=by rfl) (hdb:(g==("__debug__":Str))=false:=by decide)
  (hs1:backTo pos (starEach [e] X.env)=[(false,eval e X.env)]:=by rfl) (hs:starEach [e] X.env=[(false,eval e X.env)]:=by rfl):PE X (.Call (.Name "sorted" p) [e] [⟨some "key",.Name g kp,kpos⟩] pos) (liftF K (uSortK G ue)):=by
 subst hK
 intro pins s σ H Q I h
 obtain⟨A,P,R,h,c⟩:=h
 obtain⟨f,fd,ps,F1,b,kpf,hmg⟩:=F.ex
 refine wpAny_Call_Name_kw (zes I hg hm PyProof.Rows.boot_sorted ?_)
 have hpl:(backTo pos (starEach [e] X.env)).any (·.1)=false:=by rw[hs1];rfl
 have hA:=zad he pa_nil hs pos pins s σ H (fun vs H1=>∃ v,vs=[v]∧∃ r A1,(∃ xs,r=PV.lst xs∧sortK G xs P A1)∧Rep X.K H1 σ A1∧Stp A H A1 H1∧RVq X.K A1 H1 r v) I ⟨A,_,R,h,fun r A1 v H1 q R1 S1 rq=>⟨v,rfl,r,A1,q,R1,S1,rq⟩⟩
 refine callWith_kw (thn hA fun us s1 ⟨vs,H1,I1,r1,q1⟩=>?_) hs1 hpl
 obtain⟨v,rfl,r,A1,⟨xs,rfl,ky,rk,Ko,hG,fin⟩,R1,S1,rq⟩:=q1
 obtain⟨u,rfl,ru⟩:=zeb r1
 obtain⟨a,vs,rfl,h1,h2⟩:=rq.lst R1
 cases ru
 refine kws_cons (zbT I1 hg2 hmg ?_ hdb)
 refine kws_nil ?_
 obtain⟨zz,its,n0,rits,lits,ea⟩:=I1.lstM h1
 have lx:xs.length=vs.length:=h2.len
 have few:=Ko.few
 have hzL:its.length≤sizeLine:=Nat.le_of_lt (zbe (by omega))
 show wpAny (model X.prog X.w) X.A (call (.builtin "sorted") [.ref a] [(Str.ofString "key",.ref f)]) _ _ s1
 refine call_function_entry_kw kind_sorted plain_sorted entry_sorted (ksk_s1 _ _) ?_
 unfold Builtin.«sorted»
 refine wpAny_bind (m:=checkCount "sorted" 1 1 _) (wpAny_pure ?_)
 refine wpAny_bind (collect_list (show s1.heap.IsList a its.toArray from⟨_,ea,rfl,_,rfl⟩) ?_ hzL)
 refine wpAny_bind (wpAny_newList ?_ hzL)
 generalize hh:(s1.heap.push (seqObj "list" #[] 0)).update s1.heap.objs.size (Obj.mapSeq (·++its.toArray))=hp
 have hsz:hp.objs.size=s1.heap.objs.size+1:=by rw[← hh,Heap.size_update,size_push']
 have kp1:∀ b o,s1.heap.get? b=some o→hp.get? b=some o:=fun b o z=>by
  have hlt:b<s1.heap.objs.size:=Heap.lt_size z
  rw[← hh,Heap.get?_update_ne _ _ _ _ (Nat.ne_of_lt hlt),Heap.get?_push_ne _ _ _ (Nat.ne_of_lt hlt)]
  exact z
 have hoL:(hp.push { cls:=Value.type "list",data:=.seq its.toArray }).get? hp.objs.size=some (seqObj "list" its.toArray 0):=Heap.get?_push_size _ rfl
 refine wpAny_bind (wpAny_holding (wpAny_call_entry_kw slot_list_sort ⟨_,hoL,rfl⟩ entry_list_sort ?_ (ksk_l1 _ _)))
 show wpAny (model X.prog X.w) X.A.in1.in1 (Builtin.«list.sort» ⟨[.ref hp.objs.size],[(Str.ofString "key",.ref f)]⟩) _ _ _
 rw[ksk_t1]
 refine tree_ok F1 hr b I1 (by rw[hsz];exact Nat.le_succ _) (fun b u z=>Heap.get?_push_of_some _ (kp1 b u z)) ⟨_,s1.toks,rfl⟩ hoL (h2.weakF) rits Ko hG fun s' H' pr I' hD sm Pp Pa=>?_
 refine⟨_,rfl,wpAny_pure ⟨_,rfl,.ref hp.objs.size,_,I',rfl,?_⟩⟩
 refine c _ A1 _ H' _ (fin pr Pp Pa) (R1.same sm) (S1.trans (Stp.same A1 sm)) ⟨hp.objs.size,.lst _,rfl,rfl,hD,zam hD _,_,zab,?_⟩
 exact(h2.imp (zan sm)).picks _ fun i hi=>List.mem_range.mp (Pp.mem_iff.mp hi)
end
end L2
namespace L2
open PySem PySem.Spec PyProof.Rows
section
variable {X:Cx}{K:PySem.W.Frag}{e ke:Expr}{pos p:Pos}{ue uk:UE}
def lputK (i:Nat) (nx:AS→Prop) (a:Addr) (v k:PV) (A:AS):Prop:=∃ xs j,A.rho[i]?=some (some (.own a (.lst xs)))∧k=.int (j:Nat)∧j<xs.length∧nx (put A i (.own a (.lst (xs.set j v))))
def uLput (i:Nat) (ue uk:UE):US:=fun E A=>ue A fun v A1=>lstO A1.rho[i]? (fun a _ A=>uk A fun k A2=>lputK i E.nx a v k A2) A1
theorem uLput_c {i:Nat}{E:UEnds}{B:Addr→Prop}{rho:List (Option Sl)}{S:Option SSt}:uLput i ue uk E ⟨B,rho,S⟩=ue ⟨B,rho,S⟩ fun v A1=>lstO A1.rho[i]? (fun a _ A=>uk A fun k A2=>lputK i E.nx a v k A2) A1:=rfl
theorem s_lput (i:Nat){x:Str}{npos spos:Pos} (he:PE X e (liftV K ue)) (hk:PE X ke (liftV K uk)) (hN:X.N[i]?=some x:=by rfl) (hv:Vis X.env.scope x:=by first | exact Or.inl rfl | exact Or.inr (Or.inl rfl) | exact Or.inr (Or.inr rfl)) (hd:(x==("__debug__":Str))=false:=by decide) (hcd:(x==("__classdict__":Str))=false:=by decide)
  (ha:∀ v,assign (.Subscript (.Name x npos) ke pos) X.env v=(do
   let ov ← holding [v] (eval (.Name x npos) X.env)
   let iv ← holding [v,ov] (eval ke X.env)
   standAt pos
   holding [v,ov,iv] (setItem ov iv v)
   release [v,ov,iv] []):=by intro _;rfl)
  (hs:swapsWithSole [.Subscript (.Name x npos) ke pos] e spos.line X.env=pure false:=by rfl) (hw:swappedStores [.Subscript (.Name x npos) ke pos] e X.env=pure none:=by rfl)
  (h1:(assignEach [.Subscript (.Name x npos) ke pos] X.env).map (·.2)=[assign (.Subscript (.Name x npos) ke pos) X.env]:=by rfl):PS X (.Assign [.Subscript (.Name x npos) ke pos] e spos) (liftS K (uLput i ue uk)):=by
 refine(ps_asg he (pg_sub (zat (i:=i) hN hv hd hcd) hk set_list ha) hs hw h1).mono fun D σ H ⟨A,E,R,h,c⟩=>⟨A,_,R,h,fun v A1 w H1 q R1 S1 rv=>?_⟩
 unfold lstO at q
 split at q
 ·rename_i a ys hx
  obtain⟨_,ev,rfl,nb,vs,g1,g2⟩:=R1.sl i _ hx
  refine⟨_,ev,A1,_,R1,q,fun k A2 kw H2 q2 R2 S2 rk=>?_⟩
  obtain⟨xs,j,hA,rfl,hj,q2⟩:=q2
  cases rk
  obtain⟨_,_,_,_,us,k1,k2⟩:=R2.sl i _ hA
  obtain⟨R3,S3⟩:=R2.turn hA (k2.set j (rv.imp (R1.keep S2)))
  have ll:=k2.len
  refine⟨a,us,j,j,rfl,rfl,k1,?_,c.nx _ σ _ q2 R3 (S1.trans (S2.trans S3))⟩
  unfold ixN
  rw[if_pos (by omega),if_pos (by omega)]
  simp
 ·exact q.elim
end
end L2
set_option maxHeartbeats 4000000
namespace K61
open PySem L2
def top (i:Nat):Stmt:=PySem.Challenge.pw_everyplan_k61_trees_by_deeds.main.body.getD i (.Pass ⟨0,0,0,0⟩)
def inClass:Stmt→Nat→Stmt
 | .ClassDef _ _ _ b _ _ _ _ _ _ _,j=>b.getD j (.Pass ⟨0,0,0,0⟩)
 | s,_=>s
abbrev zbu:Stmt:=top 16
abbrev d_rank:Stmt:=top 17
abbrev zcc:Stmt:=top 18
abbrev zbF:Stmt:=top 22
abbrev zbj:Stmt:=top 23
abbrev zcb:Stmt:=top 24
abbrev zbD:Stmt:=top 25
abbrev zcN:Stmt:=top 26
abbrev zaS:Stmt:=top 27
abbrev zbE:Stmt:=top 28
abbrev zaR:Stmt:=top 29
abbrev zaK:Stmt:=top 30
abbrev zdW:Stmt:=top 31
abbrev zaA:Stmt:=top 32
abbrev zaB:Stmt:=top 33
abbrev sBegin:Stmt:=top 36
abbrev sDigit:Stmt:=top 37
abbrev sMixed:Stmt:=top 38
abbrev sTake:Stmt:=top 39
abbrev zbl:Stmt:=top 40
abbrev zaD:Stmt:=top 41
abbrev zbG:Stmt:=top 42
abbrev zaT:Stmt:=top 43
abbrev zaE:Stmt:=top 44
abbrev zaQ:Stmt:=top 45
abbrev zaL:Stmt:=top 46
abbrev zbk:Stmt:=top 47
abbrev zba:Stmt:=top 48
abbrev zbH:Stmt:=top 49
abbrev d_law:Stmt:=top 50
abbrev zfH:Stmt:=inClass (top 34) 0
abbrev m_has:Stmt:=inClass (top 34) 1
abbrev m_put:Stmt:=inClass (top 34) 2
abbrev zfG:Stmt:=inClass (top 34) 3
abbrev zeZ:Stmt:=inClass (top 34) 4
abbrev zeY:Stmt:=inClass (top 34) 6
abbrev m_many:Stmt:=inClass (top 34) 7
structure Bt (mg:Str→Option Value):Prop where
 ValueError:mg "ValueError"=none
 abs:mg "abs"=none
 bool:mg "bool"=none
 int:mg "int"=none
 isinstance:mg "isinstance"=none
 len:mg "len"=none
 list:mg "list"=none
 max:mg "max"=none
 range:mg "range"=none
 sorted:mg "sorted"=none
 str:mg "str"=none
 tuple:mg "tuple"=none
section
variable {P:Program}{w:World}{K:PySem.W.Frag}{mg:Str→Option Value}{base:Heap}
theorem scDigit:FnScope ["_law_state","_law_most","_law_found"] ["_law_state","_law_most"] (defScope sDigit):=⟨rfl,rfl,rfl,by decide +kernel,rfl,by decide +kernel,by decide +kernel⟩
theorem ok_digit {f:Addr}{fd:FuncData} (F:Fun K "_law_digit" "_law_digit" sDigit f fd) (B:Bt mg):FnOk P w K mg base CX0 1 f fd ["_law_state","_law_most"] (spTake K):=by
 refine F.ok scDigit (fun vs H Q E h=>?_) (fun cdv A outer s H vs Q E hr h=>?_)
 ·obtain⟨d,a,n,D,m,rfl,_⟩:=h
  rfl
 obtain⟨d,a,n,D,m,rfl,S,Sc,hn,hm,hm2,q⟩:=h
 have hu:=zfh hr
 refine⟨_,zah (zfz PassesOwn.never
   ((pw_and (zbz op_eq (zaN hu (pv 0) zaq (fun _ _=>rfl)) zau (nomark _))
    (pw_and1 (zbz op_lt (zaN hu (pv 0) zaq (fun _ _=>rfl)) (zaw zaG (by rfl) B.len PySem.boot_len (zad (zaN hu (pv 0) zaq (fun _ _=>rfl)) pa_nil)) (nomark _)))).pt)
   (zah (zdw hu (pv 0) zaq (zaw call_abs (by rfl) B.abs PyProof.Rows.boot_abs (zad (pe_ix ix_list (zaN hu (pv 0) zaq (fun _ _=>rfl)) (zaN hu (pv 0) zaq (fun _ _=>rfl)) (fun _ _=>rfl)) pa_nil)) rfl)
   (zak (zdw hu (pv 0) zaq (zaH op_add (zaN hu (pv 0) zaq (fun _ _=>rfl)) zau) rfl))))
  (zah (zaM (i:=2) scDigit.nd rfl (Or.inl rfl) (zaH zcg (zaN hu (pv 0) zaq (fun _ _=>rfl)) (pv 1)))
  (zah (zdw hu (pv 0) zaq (zaH zdD (zaN hu (pv 0) zaq (fun _ _=>rfl)) (pv 1)) rfl)
  (zak (zaV (pv 2))))),?_⟩
 obtain⟨ns,hS,hl⟩:=Sc
 obtain⟨kv0,hk0⟩:=S.dk
 obtain⟨t,l,wy,hd,h1,h2,h3⟩:=S.ex
 refine⟨fun k σ H1=>∃ (t l:Int),σ=[some (.ref d),some (.int m),none]∧But d H H1∧H1 d=some (.dK (SK.zip (SV a t l wy D)))∧1≤t∧t≤(n:Int)+64∧0≤l∧k=((n:Int)+64-t).toNat,
  ⟨_,t,l,rfl,But.refl _ _,hd,h1,h2,h3,rfl⟩,?_⟩
 rintro k σ H1 ⟨t,l,rfl,b1,hd,h1,h2,h3,rfl⟩
 refine⟨_,rfl,d,_,rfl,dget (i:=2) hd rfl rfl,rfl,_,rfl,?_⟩
 refine ite2 (fun c1=>?_) (fun c1=>?_)
 ·refine⟨_,rfl,d,_,rfl,dget (i:=1) hd rfl rfl,_,rfl,d,_,rfl,dget (i:=0) hd rfl rfl,a,_,rfl,.inl (b1.seq hk0 hS),_,_,rfl,rfl,_,rfl,?_⟩
  refine ite2 (fun c2=>?_) (fun c2=>?_)
  ·have c2':t<((ns.map V.int).length:Int):=of_decide_eq_true c2
   rw[List.length_map] at c2'
   obtain⟨v,hv⟩:=at_int (ns:=ns) (k:=t) (by omega) c2'
   refine⟨fun σ' H'=>∃ (t' l':Int),σ'=[some (.ref d),some (.int m),none]∧But d H H'∧H' d=some (.dK (SK.zip (SV a t' l' wy D)))∧t'=t+1∧0≤l',fun σ' H' ⟨t',l',e1,b2,e2,e3,e4⟩=>⟨_,by omega,t',l',e1,b2,e2,by omega,by omega,e4,rfl⟩,?_⟩
   refine⟨_,rfl,d,_,rfl,dget (i:=0) hd rfl rfl,_,rfl,d,_,rfl,dget (i:=1) hd rfl rfl,a,_,_,_,rfl,rfl,b1.seq hk0 hS,hv,v,rfl,_,rfl,d,_,rfl,dput (i:=2) hd rfl rfl,?_⟩
   have hd2:(upd H1 d (.dK (SK.zip ((SV a t l wy D).set 2 (.int (if v<0 then -v else v)))))) d=some (.dK (SK.zip (SV a t (if v<0 then -v else v) wy D))):=zab
   refine⟨_,rfl,d,_,rfl,dget (i:=1) hd2 rfl rfl,_,_,rfl,rfl,_,rfl,d,_,rfl,dput (i:=1) hd2 rfl rfl,?_⟩
   exact⟨t+1,_,rfl,(b1.upd _).upd _,zab,rfl,by split<;>omega⟩
  ·refine⟨_,rfl,d,_,rfl,dget (i:=2) hd rfl rfl,_,rfl,_,_,rfl,rfl,hm,?_⟩
   refine⟨_,rfl,d,_,rfl,dget (i:=2) hd rfl rfl,_,rfl,_,_,rfl,rfl,⟨hm,hm2⟩,_,rfl,d,_,rfl,dput (i:=2) hd rfl rfl,_,rfl,?_⟩
   exact q (l % m) _ (Int.emod_nonneg _ (by omega)) (Int.emod_lt_of_pos _ hm) ⟨⟨t,l / m,wy,zab,h1,by omega,Int.ediv_nonneg h3 (by omega)⟩,S.tbB (b1.upd _) rfl⟩ (b1.upd _)
 ·refine⟨_,rfl,d,_,rfl,dget (i:=2) hd rfl rfl,_,rfl,_,_,rfl,rfl,hm,?_⟩
  refine⟨_,rfl,d,_,rfl,dget (i:=2) hd rfl rfl,_,rfl,_,_,rfl,rfl,⟨hm,hm2⟩,_,rfl,d,_,rfl,dput (i:=2) hd rfl rfl,_,rfl,?_⟩
  exact q (l % m) _ (Int.emod_nonneg _ (by omega)) (Int.emod_lt_of_pos _ hm) ⟨⟨t,l / m,wy,zab,h1,by omega,Int.ediv_nonneg h3 (by omega)⟩,S.tbB (b1.upd _) rfl⟩ (b1.upd _)
theorem scMixed:FnScope ["_law_state","_law_most","_law_script","_law_at","_law_cell"] ["_law_state","_law_most"] (defScope sMixed):=⟨rfl,rfl,rfl,by decide +kernel,rfl,by decide +kernel,by decide +kernel⟩
theorem ok_mixed {f:Addr}{fd:FuncData} (F:Fun K "_law_mixed" "_law_mixed" sMixed f fd) (B:Bt mg):FnOk P w K mg base CX0 1 f fd ["_law_state","_law_most"] (spTake K):=by
 refine F.ok scMixed (fun vs H Q E h=>?_) (fun cdv A outer s H vs Q E hr h=>?_)
 ·obtain⟨d,a,n,D,m,rfl,_⟩:=h
  rfl
 obtain⟨d,a,n,D,m,rfl,S,Sc,hn,hm,hm2,q⟩:=h
 have hu:=zfh hr
 refine⟨_,zah (zaM (i:=2) scMixed.nd rfl (Or.inl rfl) (zaN hu (pv 0) zaq (fun _ _=>rfl)))
  (zah (zaM (i:=3) scMixed.nd rfl (Or.inl rfl) (zaN hu (pv 0) zaq (fun _ _=>rfl)))
  (zah (zdw hu (pv 0) zaq (zaH op_add (pv 3) zau) rfl)
  (zah (zaM (i:=4) scMixed.nd rfl (Or.inl rfl) (zaH op_add (zaH zcy (zaH zcy (pv 3) (pv 3)) zau) zau))
  (zah (zcR (zbz op_gt (zaw zaG (by rfl) B.len PySem.boot_len (zad (pv 2) pa_nil)) zau (nomark _))
   (zak (zaM (i:=4) scMixed.nd rfl (Or.inl rfl) (zaH op_add (pv 4) (zaH zcy (zaH zcg (pe_ix ix_list (pv 2) (zaH zcg (pv 3) (zaw zaG (by rfl) B.len PySem.boot_len (zad (pv 2) pa_nil))) (fun _ _=>rfl)) zau)
    (zaH op_add zau (zaH zdD (pv 3) (zaw zaG (by rfl) B.len PySem.boot_len (zad (pv 2) pa_nil)))))))) pss_nil)
  (zah (zaM (i:=4) scMixed.nd rfl (Or.inl rfl) (zaH zcg (zaH zcy (pv 4) zau) zau))
  (zak (zaV (zaH zcg (zaH op_fdiv (zaH zcg (zaH op_add (zaH op_add (zaH zcy (pv 4) (pv 4)) (zaH zcy zau (pv 4))) (pv 3)) zau) zau) (pv 1))))))))),?_⟩
 obtain⟨ns,hS,hl⟩:=Sc
 obtain⟨t,l,wy,hd,h1,h2,h3⟩:=S.ex
 have b1:But d H (upd H d (.dK (SK.zip ((SV a t l wy D).set 1 (.int (t+1)))))):=(But.refl d H).upd _
 have hS1:=b1.seq hd hS
 refine⟨_,rfl,d,_,rfl,dget (i:=0) hd rfl rfl,_,rfl,d,_,rfl,dget (i:=1) hd rfl rfl,_,rfl,_,_,rfl,rfl,_,rfl,d,_,rfl,dput (i:=1) hd rfl rfl,?_⟩
 refine⟨_,rfl,_,rfl,_,_,rfl,rfl,.inl ⟨by omega,by omega⟩,_,_,rfl,rfl,.inr ⟨by decide,by decide⟩,_,_,rfl,rfl,?_⟩
 refine⟨_,rfl,a,_,rfl,.inl hS1,_,_,rfl,rfl,_,rfl,?_⟩
 have fin:∀ c:Int,q=q→(0≤c % 2147483629∧c % 2147483629<2147483629):=fun c _=>⟨Int.emod_nonneg _ (by decide),Int.emod_lt_of_pos _ (by decide)⟩
 have S1:StAt (upd H d (.dK (SK.zip ((SV a t l wy D).set 1 (.int (t+1)))))) d a (n+1) D:=⟨⟨t+1,l,wy,zab,by omega,by omega,h3⟩,S.tbB b1 rfl⟩
 refine ite2 (fun c=>?_) (fun c=>?_)
 ·have c':(0:Int)<((ns.map V.int).length:Int):=of_decide_eq_true c
  have hlen:((ns.map V.int).length:Int)=(ns.length:Int):=by rw[List.length_map]
  have p1:0≤t % ((ns.map V.int).length:Int):=Int.emod_nonneg _ (by omega)
  have p2:t % ((ns.map V.int).length:Int)<((ns.map V.int).length:Int):=Int.emod_lt_of_pos _ c'
  obtain⟨v,hv⟩:=at_int (ns:=ns) (k:=t % ((ns.map V.int).length:Int)) p1 (by omega)
  have p3:0≤v % 2147483647∧v % 2147483647<2147483647:=⟨Int.emod_nonneg _ (by decide),Int.emod_lt_of_pos _ (by decide)⟩
  refine⟨_,rfl,_,rfl,_,rfl,_,rfl,a,_,rfl,.inl hS1,_,_,rfl,rfl,c',a,_,_,_,rfl,rfl,hS1,hv,_,_,rfl,rfl,(by show(0:Int)<2147483647;decide),_,rfl,_,rfl,a,_,rfl,.inl hS1,_,_,rfl,rfl,⟨c',by omega⟩,_,_,rfl,rfl,_,_,rfl,rfl,.inl ⟨by omega,by omega⟩,_,_,rfl,rfl,?_⟩
  refine⟨_,rfl,_,_,rfl,rfl,.inr ⟨by decide,by decide⟩,_,_,rfl,rfl,(by show(0:Int)<2147483629;decide),?_⟩
  have f1:=fin ((t*t*7919+11+v % 2147483647*(1+t / ((ns.map V.int).length:Int)))*48271) rfl
  refine⟨_,rfl,_,rfl,_,_,rfl,rfl,.inl ⟨by omega,by omega⟩,_,rfl,_,_,rfl,rfl,.inl ⟨by decide,by decide⟩,_,_,rfl,rfl,_,rfl,_,_,rfl,rfl,_,_,rfl,rfl,(by show(0:Int)<2147483587;decide),_,_,rfl,rfl,⟨by decide,by decide⟩,_,rfl,_,_,rfl,rfl,hm,?_⟩
  exact q _ _ (Int.emod_nonneg _ (by omega)) (Int.emod_lt_of_pos _ hm) S1 b1
 ·refine⟨_,rfl,_,_,rfl,rfl,.inr ⟨by decide,by decide⟩,_,_,rfl,rfl,(by show(0:Int)<2147483629;decide),?_⟩
  have f1:=fin ((t*t*7919+11)*48271) rfl
  refine⟨_,rfl,_,rfl,_,_,rfl,rfl,.inl ⟨by omega,by omega⟩,_,rfl,_,_,rfl,rfl,.inl ⟨by decide,by decide⟩,_,_,rfl,rfl,_,rfl,_,_,rfl,rfl,_,_,rfl,rfl,(by show(0:Int)<2147483587;decide),_,_,rfl,rfl,⟨by decide,by decide⟩,_,rfl,_,_,rfl,rfl,hm,?_⟩
  exact q _ _ (Int.emod_nonneg _ (by omega)) (Int.emod_lt_of_pos _ hm) S1 b1
theorem scTake:FnScope ["_law_state","_law_most"] ["_law_state","_law_most"] (defScope sTake):=⟨rfl,rfl,rfl,by decide +kernel,rfl,by decide +kernel,by decide +kernel⟩
theorem ok_take {f g h:Addr}{fd gd hd:FuncData} (F:Fun K "_law_take" "_law_take" sTake f fd) (G:FnOk P w K mg base CX0 1 g gd ["_law_state","_law_most"] (spTake K)) (bG:Binds K gd ["_law_state","_law_most"] []) (kG:PySem.W.keepIn K (.ref g)=true) (mG:mg "_law_digit"=some (.ref g))
  (G2:FnOk P w K mg base CX0 1 h hd ["_law_state","_law_most"] (spTake K)) (bG2:Binds K hd ["_law_state","_law_most"] []) (kG2:PySem.W.keepIn K (.ref h)=true) (mG2:mg "_law_mixed"=some (.ref h)) :
  FnOk P w K mg base CX0 2 f fd ["_law_state","_law_most"] (spTake K):=by
 refine F.ok scTake (fun vs H Q E h=>?_) (fun cdv A outer s H vs Q E hr h=>?_)
 ·obtain⟨d,a,n,D,m,rfl,_⟩:=h
  rfl
 obtain⟨d,a,n,D,m,rfl,S,Sc,hn,hm,hm2,q⟩:=h
 have hu:=zfh hr
 refine⟨_,zah (zcR (zbz op_eq (zaN hu (pv 0) zaq (fun _ _=>rfl)) zau (nomark _)) (zak (zaV (zaZ G hr rfl mG kG bG .nil zbO (zad (pv 0) (zad (pv 1) pa_nil))))) pss_nil)
  (zak (zaV (zaZ G2 hr rfl mG2 kG2 bG2 .nil zbO (zad (pv 0) (zad (pv 1) pa_nil))))),?_⟩
 obtain⟨t,l,wy,hd,h1,h2,h3⟩:=S.ex
 refine⟨_,rfl,d,_,rfl,dget (i:=3) hd rfl rfl,rfl,_,rfl,?_⟩
 refine ite2 (fun c=>?_) (fun c=>?_)
 ·exact⟨_,rfl,_,rfl,d,a,n,D,m,rfl,S,Sc,hn,hm,hm2,q⟩
 ·exact⟨_,rfl,_,rfl,d,a,n,D,m,rfl,S,Sc,hn,hm,hm2,q⟩
end
end K61
namespace K61
open PySem PySem.W L2 PyProof.Rows
abbrev owP:Program:=PySem.Challenge.pw_everyplan_k61_trees_by_deeds
set_option maxHeartbeats 0 in
theorem ow0:PySem.Challenge.rw_everyplan_k61_trees_by_deeds.wellSaid=true:=by kernel_rfl
def owKeep (l:List Stmt):List Stmt:=l.filter fun s=>match s with
 | .Assign [.Name x _] _ _=>!(x==("__name__":Str))
 | _=>true
def owQ:Program:={ owP with main:={ owP.main with body:=owKeep owP.main.body } }
abbrev owD (P:Params) (k:Str) (t:Tok) (v:Value):DictEntry:=.mk (PyData.keyHash P k) (.str k t) v
abbrev owf (n q:Str) (s:Stmt):=FuncData.mk n q (L2.defArgs s) (FuncBody.stmts (L2.defBody s)) (L2.defScope s)
abbrev owLi:Life:=.mk [] [] [] 0 [] [] false #[] [] 0 false false false 0 [2000,10,10] false 0 true [] [] 0 false
def o3 (P:Params):Obj:=(Obj.mk (.type "dict") none (Data.dict (List.toArray ((owD P "__name__" 165 (.str "law_everyplan_k61_trees_by_deeds" 649))::((owD P "__doc__" 166 .none)::((owD P "__package__" 167 .none)::((owD P "__loader__" 168 (.builtin "__main__.__loader__#opaque"))::((owD P "__spec__" 169 .none)::((owD P "__annotations__" 170 (.ref 6))::((owD P "__builtins__" 171 (.ref 4))::((owD P "__file__" 173 (.str "/claim/cut.py" 172))::((owD P "__cached__" 174 .none)::((owD P "_wall" 193 (.ref 21))::((owD P "PlanError" 213 (.ref 31))::((owD P "NoFrame" 229 (.ref 44))::((owD P "NoAsk" 245 (.ref 56))::((owD P "NoTurn" 270 (.ref 75))::((owD P "NoTree" 286 (.ref 87))::((owD P "NoOrder" 302 (.ref 99))::((owD P "NoPlan" 318 (.ref 111))::((owD P "NoMore" 334 (.ref 123))::((owD P "NoText" 350 (.ref 135))::((owD P "NoRow" 366 (.ref 147))::((owD P "NoName" 382 (.ref 159))::((owD P "NoKeep" 407 (.ref 178))::((owD P "Late" 432 (.ref 197))::((owD P "is_whole" 441 (.ref 206))::((owD P "rank" 448 (.ref 213))::((owD P "row_rank" 454 (.ref 218))::((owD P "LEAST_MOST" 458 (.int 3 457))::((owD P "GREATEST_MOST" 460 (.int 9 459))::((owD P "pair_rank" 467 (.ref 225))::((owD P "first_pair" 474 (.ref 232))::((owD P "shape_of" 480 (.ref 237))::((owD P "things_of" 487 (.ref 244))::((owD P "room_of" 495 (.ref 251))::((owD P "is_too_small" 503 (.ref 258))::((owD P "shapes_of" 513 (.ref 265))::((owD P "place_behind" 519 (.ref 270))::((owD P "put_beneath" 530 (.ref 277))::((owD P "mended" 541 (.ref 284))::((owD P "taken_beneath" 547 (.ref 289))::((owD P "pairs_beneath" 556 (.ref 296))::((owD P "Tree" 648 (.ref 362))::((owD P "_law_begin" 658 (.ref 373))::((owD P "_law_digit" 667 (.ref 380))::((owD P "_law_mixed" 678 (.ref 387))::((owD P "_law_take" 686 (.ref 394))::((owD P "_law_order" 693 (.ref 401))::((owD P "_law_pair_order" 699 (.ref 406))::((owD P "_law_pair" 709 (.ref 413))::((owD P "_law_refused" 720 (.ref 420))::((owD P "_law_is_no_tree" 727 (.ref 427))::((owD P "_law_not_made" 736 (.ref 434))::((owD P "_law_walked" 742 (.ref 439))::((owD P "_law_whole" 749 (.ref 446))::((owD P "_law_stands" 764 (.ref 453))::((owD P "_law_deed" 777 (.ref 460))::((owD P "law" 793 (.ref 467))::[]))))))))))))))))))))))))))))))))))))))))))))))))))))))))) 56) #[])
def q1:Obj:=(Obj.mk (.type "tuple") none (Data.seq #[] 0) #[])
def o12:Obj:=(Obj.mk .none none (Data.fields (List.toArray ((.int 1 0)::((.int 0 0)::((.ref 20)::((.int 5 0)::((.int 0 0)::((.ref 27)::((.int 7 0)::((.int 0 0)::((.ref 40)::((.int 9 0)::((.int 0 0)::((.ref 52)::((.int 11 0)::((.int 0 0)::((.ref 64)::((.int 16 0)::((.int 0 0)::((.ref 83)::((.int 18 0)::((.int 0 0)::((.ref 95)::((.int 20 0)::((.int 0 0)::((.ref 107)::((.int 22 0)::((.int 0 0)::((.ref 119)::((.int 24 0)::((.int 0 0)::((.ref 131)::((.int 26 0)::((.int 0 0)::((.ref 143)::((.int 28 0)::((.int 0 0)::((.ref 155)::((.int 30 0)::((.int 0 0)::((.ref 167)::((.int 35 0)::((.int 0 0)::((.ref 186)::((.int 41 0)::((.int 0 0)::((.ref 205)::((.int 43 0)::((.int 0 0)::((.ref 212)::((.int 49 0)::((.int 0 0)::((.ref 217)::((.int 54 0)::((.int 0 0)::((.ref 224)::((.int 56 0)::((.int 0 0)::((.ref 231)::((.int 60 0)::((.int 0 0)::((.ref 236)::((.int 64 0)::((.int 0 0)::((.ref 243)::((.int 66 0)::((.int 0 0)::((.ref 250)::((.int 68 0)::((.int 0 0)::((.ref 257)::((.int 70 0)::((.int 0 0)::((.ref 264)::((.int 75 0)::((.int 0 0)::((.ref 269)::((.int 78 0)::((.int 0 0)::((.ref 276)::((.int 84 0)::((.int 0 0)::((.ref 283)::((.int 90 0)::((.int 0 0)::((.ref 288)::((.int 97 0)::((.int 0 0)::((.ref 295)::((.int 104 0)::((.int 0 0)::((.ref 302)::((.int 149 0)::((.int 0 0)::((.ref 372)::((.int 154 0)::((.int 0 0)::((.ref 379)::((.int 161 0)::((.int 0 0)::((.ref 386)::((.int 170 0)::((.int 0 0)::((.ref 393)::((.int 174 0)::((.int 0 0)::((.ref 400)::((.int 178 0)::((.int 0 0)::((.ref 405)::((.int 180 0)::((.int 0 0)::((.ref 412)::((.int 186 0)::((.int 0 0)::((.ref 419)::((.int 198 0)::((.int 0 0)::((.ref 426)::((.int 202 0)::((.int 0 0)::((.ref 433)::((.int 209 0)::((.int 0 0)::((.ref 438)::((.int 231 0)::((.int 0 0)::((.ref 445)::((.int 233 0)::((.int 0 0)::((.ref 452)::((.int 251 0)::((.int 0 0)::((.ref 459)::((.int 263 0)::((.int 0 0)::((.ref 466)::[]))))))))))))))))))))))))))))))))))))))))))))))))))))))))))))))))))))))))))))))))))))))))))))))))))))))))))))))))))))))))))))))))))))))))) #[])
def q2 (x0:Str) (x1:Nat) (x2:Nat) (x3:Nat) (x4:Int) (x5:Nat) (x6:Nat) (x7:Int) (x8:Nat):Obj:=(Obj.mk (.type "code") none (Data.fields (List.toArray ((.str x0 x1)::((.str x0 x2)::((.str "/claim/cut.py" x3)::((.int x4 0)::((.int 0 0)::((.int 0 0)::((.int 0 0)::((.int 0 0)::((.ref x5)::((.bool false)::((.int 181 0)::((.ref x6)::(.none::(.none::(.none::(.none::((.int x7 0)::((.int x4 0)::((.str "/claim/cut.py" x8)::[]))))))))))))))))))))) #[])
def q3 (x0:Nat) (x1:Nat) (x2:Str) (x3:Nat):Obj:=(Obj.mk (.type "frame") none Data.plain (List.toArray ((some (.ref x0))::((some (.ref 3))::((some (.ref x1))::(none::((some (.str x2 x3))::(none::((some (.ref 0))::[])))))))))
def q4:Obj:=(Obj.mk .none none (Data.fields #[]) #[])
def o12z:=q4
def q5 (x0:Str) (x1:Nat):Obj:=(Obj.mk (.type "tuple") none (Data.seq (List.toArray ((.str x0 x1)::[])) 0) #[])
def q6 (x0:Str) (x1:Nat):Obj:=(Obj.mk .none none (Data.func (owf x0 x0 (top x1) 0 [] .none .none .none .none none .none .none 0)) #[])
def q7 (x0:Str) (x1:Nat) (x2:Str) (x3:Nat) (x4:Nat) (x5:Int) (x6:Int) (x7:Nat) (x8:Nat) (x9:Nat) (x10:Nat) (x11:Nat) (x12:Int) (x13:Nat):Obj:=(Obj.mk (.type "code") none (Data.fields (List.toArray ((.str x0 x1)::((.str x2 x3)::((.str "/claim/cut.py" x4)::((.int x5 0)::((.int x6 0)::((.int 0 0)::((.int 0 0)::((.int 3 0)::((.ref x7)::((.bool true)::((.int 181 0)::((.ref x8)::(.none::((.ref x9)::((.ref x10)::((.ref x11)::((.int x12 0)::((.int x5 0)::((.str "/claim/cut.py" x13)::[]))))))))))))))))))))) #[])
def o20:=q7 "_wall" 187 "_wall" 188 189 1 1 15 16 17 18 19 191 192
def o71:=q7 "__init__" 258 "NoTurn.__init__" 259 260 13 2 66 67 68 69 70 263 264
def o174:=q7 "__init__" 395 "NoKeep.__init__" 396 397 32 2 169 170 171 172 173 400 401
def o193:=q7 "__init__" 420 "Late.__init__" 421 422 37 2 188 189 190 191 192 425 426
def o205:=q7 "is_whole" 435 "is_whole" 436 437 41 1 200 201 202 203 204 439 440
def o212:=q7 "rank" 442 "rank" 443 444 43 1 207 208 209 210 211 446 447
def o224:=q7 "pair_rank" 461 "pair_rank" 462 463 54 1 219 220 221 222 223 465 466
def o231:=q7 "first_pair" 468 "first_pair" 469 470 56 1 226 227 228 229 230 472 473
def o243:=q7 "things_of" 481 "things_of" 482 483 64 1 238 239 240 241 242 485 486
def o250:=q7 "room_of" 488 "room_of" 489 490 66 2 245 246 247 248 249 493 494
def o257:=q7 "is_too_small" 496 "is_too_small" 497 498 68 2 252 253 254 255 256 501 502
def o264:=q7 "shapes_of" 504 "shapes_of" 505 506 70 3 259 260 261 262 263 511 512
def o276:=q7 "put_beneath" 520 "put_beneath" 521 522 78 3 271 272 273 274 275 528 529
def o283:=q7 "mended" 531 "mended" 532 533 84 3 278 279 280 281 282 539 540
def o295:=q7 "pairs_beneath" 548 "pairs_beneath" 549 550 97 1 290 291 292 293 294 554 555
def o309:=q7 "__init__" 569 "Tree.__init__" 570 571 106 2 304 305 306 307 308 574 575
def o316:=q7 "has" 577 "Tree.has" 578 579 113 2 311 312 313 314 315 583 584
def o323:=q7 "put" 586 "Tree.put" 587 588 119 3 318 319 320 321 322 594 595
def o330:=q7 "take" 597 "Tree.take" 598 599 127 3 325 326 327 328 329 605 606
def o337:=q7 "pairs" 608 "Tree.pairs" 609 610 137 1 332 333 334 335 336 612 613
def o344:=q7 "between" 615 "Tree.between" 616 617 140 3 339 340 341 342 343 621 622
def o351:=q7 "shape" 624 "Tree.shape" 625 626 143 1 346 347 348 349 350 628 629
def o358:=q7 "many" 631 "Tree.many" 632 633 146 1 353 354 355 356 357 635 636
def o372:=q7 "_law_begin" 651 "_law_begin" 652 653 149 1 367 368 369 370 371 656 657
def o379:=q7 "_law_digit" 659 "_law_digit" 660 661 154 2 374 375 376 377 378 665 666
def o386:=q7 "_law_mixed" 668 "_law_mixed" 669 670 161 2 381 382 383 384 385 676 677
def o393:=q7 "_law_take" 679 "_law_take" 680 681 170 2 388 389 390 391 392 684 685
def o400:=q7 "_law_order" 687 "_law_order" 688 689 174 1 395 396 397 398 399 691 692
def o412:=q7 "_law_pair" 700 "_law_pair" 701 702 180 1 407 408 409 410 411 707 708
def o419:=q7 "_law_refused" 710 "_law_refused" 711 712 186 3 414 415 416 417 418 718 719
def o426:=q7 "_law_is_no_tree" 721 "_law_is_no_tree" 722 723 198 1 421 422 423 424 425 725 726
def o433:=q7 "_law_not_made" 728 "_law_not_made" 729 730 202 1 428 429 430 431 432 734 735
def o445:=q7 "_law_whole" 743 "_law_whole" 744 745 231 1 440 441 442 443 444 747 748
def o452:=q7 "_law_stands" 750 "_law_stands" 751 752 233 4 447 448 449 450 451 762 763
def o459:=q7 "_law_deed" 765 "_law_deed" 766 767 251 5 454 455 456 457 458 775 776
def o466:=q7 "law" 778 "law" 779 780 263 1 461 462 463 464 465 791 792
def q8 (x0:Str) (x1:Nat) (x2:Str) (x3:Nat) (x4:Nat):Obj:=(Obj.mk (.type "function") none (Data.func (owf x0 x0 (top x1) 3 [] .none .none .none (.str x2 x3) none (.ref x4) .none 0)) #[])
def o21:=q8 "_wall" 0 "__main__" 164 20
def o206:=q8 "is_whole" 16 "everyplan.values" 433 205
def o213:=q8 "rank" 17 "everyplan.values" 433 212
def o218:=q8 "row_rank" 18 "everyplan.values" 433 217
def o225:=q8 "pair_rank" 22 "everyplan.trees" 455 224
def o232:=q8 "first_pair" 23 "everyplan.trees" 455 231
def o237:=q8 "shape_of" 24 "everyplan.trees" 455 236
def o244:=q8 "things_of" 25 "everyplan.trees" 455 243
def o251:=q8 "room_of" 26 "everyplan.trees" 455 250
def o258:=q8 "is_too_small" 27 "everyplan.trees" 455 257
def o265:=q8 "shapes_of" 28 "everyplan.trees" 455 264
def o270:=q8 "place_behind" 29 "everyplan.trees" 455 269
def o277:=q8 "put_beneath" 30 "everyplan.trees" 455 276
def o284:=q8 "mended" 31 "everyplan.trees" 455 283
def o289:=q8 "taken_beneath" 32 "everyplan.trees" 455 288
def o296:=q8 "pairs_beneath" 33 "everyplan.trees" 455 295
def o373:=q8 "_law_begin" 36 "law_everyplan_k61_trees_by_deeds" 649 372
def o380:=q8 "_law_digit" 37 "law_everyplan_k61_trees_by_deeds" 649 379
def o387:=q8 "_law_mixed" 38 "law_everyplan_k61_trees_by_deeds" 649 386
def o394:=q8 "_law_take" 39 "law_everyplan_k61_trees_by_deeds" 649 393
def o401:=q8 "_law_order" 40 "law_everyplan_k61_trees_by_deeds" 649 400
def o406:=q8 "_law_pair_order" 41 "law_everyplan_k61_trees_by_deeds" 649 405
def o413:=q8 "_law_pair" 42 "law_everyplan_k61_trees_by_deeds" 649 412
def o420:=q8 "_law_refused" 43 "law_everyplan_k61_trees_by_deeds" 649 419
def o427:=q8 "_law_is_no_tree" 44 "law_everyplan_k61_trees_by_deeds" 649 426
def o434:=q8 "_law_not_made" 45 "law_everyplan_k61_trees_by_deeds" 649 433
def o439:=q8 "_law_walked" 46 "law_everyplan_k61_trees_by_deeds" 649 438
def o446:=q8 "_law_whole" 47 "law_everyplan_k61_trees_by_deeds" 649 445
def o453:=q8 "_law_stands" 48 "law_everyplan_k61_trees_by_deeds" 649 452
def o460:=q8 "_law_deed" 49 "law_everyplan_k61_trees_by_deeds" 649 459
def o467:=q8 "law" 50 "law_everyplan_k61_trees_by_deeds" 649 466
def q9:Obj:=(Obj.mk (.type "builtin_function_or_method") none (Data.fields (List.toArray ((.builtin "type.__prepare__")::((.type "type")::[])))) #[])
def q10 (P:Params) (x0:Nat) (x1:Nat) (x2:Str) (x3:Nat) (x4:Nat) (x5:Int) (x6:Nat) (x7:Nat) (x8:Nat):Obj:=(Obj.mk (.type "dict") none (Data.dict (List.toArray ((owD P "__module__" x0 (.str "everyplan.errors" 194))::((owD P "__qualname__" x1 (.str x2 x3))::((owD P "__firstlineno__" x4 (.int x5 x6))::((owD P "__static_attributes__" x7 (.ref x8))::[]))))) 4) #[])
def q11 (P:Params) (x0:Nat) (x1:Nat) (x2:Int) (x3:Nat) (x4:Str) (x5:Nat) (x6:Nat) (x7:Str) (x8:Nat) (x9:Nat) (x10:Nat) (x11:Nat):Obj:=(Obj.mk (.type "dict") none (Data.dict (List.toArray ((owD P "__module__" x0 (.str "everyplan.errors" 194))::((owD P "__firstlineno__" x1 (.int x2 x3))::((owD P x4 x5 (.ref x6))::((owD P x7 x8 (.ref x9))::((owD P "__doc__" x10 .none)::[])))))) x11) #[])
def o30 (P:Params):=q11 P 203 207 5 206 "__static_attributes__" 208 29 "__weakref__" 210 32 211 3
def o74 (P:Params):=q11 P 253 257 11 256 "__init__" 265 72 "__static_attributes__" 267 73 268 2
def o177 (P:Params):=q11 P 390 394 30 393 "__init__" 402 175 "__static_attributes__" 404 176 405 2
def o196 (P:Params):=q11 P 415 419 35 418 "__init__" 427 194 "__static_attributes__" 429 195 430 2
def o31:Obj:=(Obj.mk (.type "type") none (Data.cls (ClassData.mk "PlanError" ((.type "ValueError")::[]) ((.ref 31)::((.type "ValueError")::((.type "Exception")::((.type "BaseException")::((.type "object")::[]))))) 30 "PlanError" true [] ((.ref 44)::((.ref 56)::((.ref 75)::((.ref 87)::((.ref 99)::((.ref 111)::((.ref 123)::((.ref 135)::((.ref 147)::((.ref 159)::((.ref 178)::((.ref 197)::[])))))))))))) false none false)) (List.toArray ((some (.ref 22))::(none::((some (.str "PlanError" 196))::((some (.str "PlanError" 204))::((some (.builtin "ValueError.__new__"))::((some (.bool true))::[]))))))))
def q12 (x0:Nat):Obj:=(Obj.mk (.type "super") none (Data.fields (List.toArray ((.ref x0)::((.ref x0)::((.ref x0)::[]))))) #[])
def q13 (x0:Nat):Obj:=(Obj.mk (.type "builtin_function_or_method") none (Data.fields (List.toArray ((.builtin "object.__init_subclass__")::((.ref x0)::[])))) #[])
def q14:Obj:=(Obj.mk (.type "tuple") none (Data.seq (List.toArray ((.ref 31)::[])) 0) #[])
def q15 (P:Params) (x0:Nat) (x1:Nat) (x2:Int) (x3:Nat) (x4:Nat) (x5:Nat) (x6:Nat):Obj:=(Obj.mk (.type "dict") none (Data.dict (List.toArray ((owD P "__module__" x0 (.str "everyplan.errors" 194))::((owD P "__firstlineno__" x1 (.int x2 x3))::((owD P "__static_attributes__" x4 (.ref x5))::((owD P "__doc__" x6 .none)::[]))))) 2) #[])
def o43 (P:Params):=q15 P 221 225 7 224 226 42 227
def o55 (P:Params):=q15 P 237 241 9 240 242 54 243
def o86 (P:Params):=q15 P 278 282 16 281 283 85 284
def o98 (P:Params):=q15 P 294 298 18 297 299 97 300
def o110 (P:Params):=q15 P 310 314 20 313 315 109 316
def o122 (P:Params):=q15 P 326 330 22 329 331 121 332
def o134 (P:Params):=q15 P 342 346 24 345 347 133 348
def o146 (P:Params):=q15 P 358 362 26 361 363 145 364
def o158 (P:Params):=q15 P 374 378 28 377 379 157 380
def q16 (x0:Str) (x1:Nat) (x2:Nat) (x3:Nat) (x4:Nat) (x5:Nat):Obj:=(Obj.mk (.type "type") none (Data.cls (ClassData.mk x0 ((.ref 31)::[]) ((.ref x1)::((.ref 31)::((.type "ValueError")::((.type "Exception")::((.type "BaseException")::((.type "object")::[])))))) x2 x0 true [] [] false none false)) (List.toArray ((some (.ref x3))::(none::((some (.str x0 x4))::((some (.str x0 x5))::((some (.builtin "ValueError.__new__"))::((some (.bool true))::[]))))))))
def o44:=q16 "NoFrame" 44 43 35 214 222
def o56:=q16 "NoAsk" 56 55 47 230 238
def o75:=q16 "NoTurn" 75 74 59 246 254
def o87:=q16 "NoTree" 87 86 78 271 279
def o99:=q16 "NoOrder" 99 98 90 287 295
def o111:=q16 "NoPlan" 111 110 102 303 311
def o123:=q16 "NoMore" 123 122 114 319 327
def o135:=q16 "NoText" 135 134 126 335 343
def o147:=q16 "NoRow" 147 146 138 351 359
def o159:=q16 "NoName" 159 158 150 367 375
def o178:=q16 "NoKeep" 178 177 162 383 391
def o197:=q16 "Late" 197 196 181 408 416
def q17 (P:Params) (x0:Nat) (x1:Nat) (x2:Str) (x3:Nat) (x4:Nat) (x5:Int) (x6:Nat) (x7:Nat) (x8:Nat) (x9:Nat) (x10:Nat):Obj:=(Obj.mk (.type "dict") none (Data.dict (List.toArray ((owD P "__module__" x0 (.str "everyplan.errors" 194))::((owD P "__qualname__" x1 (.str x2 x3))::((owD P "__firstlineno__" x4 (.int x5 x6))::((owD P "__init__" x7 (.ref x8))::((owD P "__static_attributes__" x9 (.ref x10))::[])))))) 5) #[])
def q18 (x0:Int) (x1:Nat):Obj:=(Obj.mk .none none (Data.fields (List.toArray ((.int x0 0)::((.int 4 0)::((.ref x1)::[]))))) #[])
def q19 (x0:Str) (x1:Nat) (x2:Str) (x3:Nat):Obj:=(Obj.mk (.type "tuple") none (Data.seq (List.toArray ((.str x0 x1)::((.str x2 x3)::[]))) 0) #[])
def q20 (x0:Str) (x1:Str) (x2:Nat) (x3:Nat):Obj:=(Obj.mk .none none (Data.func (owf x0 x1 (inClass (top x2) x3) 0 [] .none .none .none .none none .none .none 0)) #[])
def q21 (x0:Str) (x1:Str) (x2:Nat) (x3:Nat) (x4:Str) (x5:Nat) (x6:Nat):Obj:=(Obj.mk (.type "function") none (Data.func (owf x0 x1 (inClass (top x2) x3) 3 [] .none .none .none (.str x4 x5) none (.ref x6) .none 0)) #[])
def o72:=q21 "__init__" "NoTurn.__init__" 5 0 "everyplan.errors" 194 71
def o175:=q21 "__init__" "NoKeep.__init__" 13 0 "everyplan.errors" 194 174
def o194:=q21 "__init__" "Late.__init__" 14 0 "everyplan.errors" 194 193
def o310:=q21 "__init__" "Tree.__init__" 34 0 "everyplan.trees" 455 309
def o317:=q21 "has" "Tree.has" 34 1 "everyplan.trees" 455 316
def o324:=q21 "put" "Tree.put" 34 2 "everyplan.trees" 455 323
def o331:=q21 "take" "Tree.take" 34 3 "everyplan.trees" 455 330
def o338:=q21 "pairs" "Tree.pairs" 34 4 "everyplan.trees" 455 337
def o345:=q21 "between" "Tree.between" 34 5 "everyplan.trees" 455 344
def o352:=q21 "shape" "Tree.shape" 34 6 "everyplan.trees" 455 351
def o359:=q21 "many" "Tree.many" 34 7 "everyplan.trees" 455 358
def q22 (x0:Str) (x1:Nat) (x2:Nat) (x3:Nat) (x4:Int) (x5:Int) (x6:Nat) (x7:Nat) (x8:Nat) (x9:Int) (x10:Nat):Obj:=(Obj.mk (.type "code") none (Data.fields (List.toArray ((.str x0 x1)::((.str x0 x2)::((.str "/claim/cut.py" x3)::((.int x4 0)::((.int x5 0)::((.int 0 0)::((.int 0 0)::((.int 3 0)::((.ref x6)::((.bool true)::((.int 181 0)::((.ref x7)::(.none::(.none::(.none::((.ref x8)::((.int x9 0)::((.int x4 0)::((.str "/claim/cut.py" x10)::[]))))))))))))))))))))) #[])
def o217:=q22 "row_rank" 449 450 451 49 1 214 215 216 452 453
def o236:=q22 "shape_of" 475 476 477 60 2 233 234 235 478 479
def o269:=q22 "place_behind" 514 515 516 75 2 266 267 268 517 518
def o288:=q22 "taken_beneath" 542 543 544 90 3 285 286 287 545 546
def o405:=q22 "_law_pair_order" 694 695 696 178 1 402 403 404 697 698
def o438:=q22 "_law_walked" 737 738 739 209 3 435 436 437 740 741
def q23 (x0:Str) (x1:Nat) (x2:Str) (x3:Nat) (x4:Str) (x5:Nat) (x6:Str) (x7:Nat) (x8:Str) (x9:Nat):Obj:=(Obj.mk (.type "tuple") none (Data.seq (List.toArray ((.str x0 x1)::((.str x2 x3)::((.str x4 x5)::((.str x6 x7)::((.str x8 x9)::[])))))) 0) #[])
def q24 (x0:Str) (x1:Nat) (x2:Str) (x3:Nat) (x4:Str) (x5:Nat):Obj:=(Obj.mk (.type "tuple") none (Data.seq (List.toArray ((.str x0 x1)::((.str x2 x3)::((.str x4 x5)::[])))) 0) #[])
def o361 (P:Params):Obj:=(Obj.mk (.type "dict") none (Data.dict (List.toArray ((owD P "__module__" 564 (.str "everyplan.trees" 455))::((owD P "__firstlineno__" 568 (.int 104 567))::((owD P "__init__" 576 (.ref 310))::((owD P "has" 585 (.ref 317))::((owD P "put" 596 (.ref 324))::((owD P "take" 607 (.ref 331))::((owD P "pairs" 614 (.ref 338))::((owD P "between" 623 (.ref 345))::((owD P "shape" 630 (.ref 352))::((owD P "many" 637 (.ref 359))::((owD P "__static_attributes__" 641 (.ref 360))::((owD P "__dict__" 643 (.ref 363))::((owD P "__weakref__" 645 (.ref 364))::((owD P "__doc__" 646 .none)::[]))))))))))))))) 4) #[])
def o362:Obj:=(Obj.mk (.type "type") none (Data.cls (ClassData.mk "Tree" ((.type "object")::[]) ((.ref 362)::((.type "object")::[])) 361 "Tree" true [] [] false none false)) (List.toArray (none::(none::((some (.str "Tree" 557))::((some (.str "Tree" 565))::((some (.builtin "object.__new__"))::((some (.bool true))::[]))))))))
def o3a (P:Params):Obj:=(Obj.mk (.type "dict") none (Data.dict (List.toArray ((owD P "__name__" 165 (.str "everyplan.errors" 194))::((owD P "__doc__" 166 .none)::((owD P "__package__" 167 .none)::((owD P "__loader__" 168 (.builtin "__main__.__loader__#opaque"))::((owD P "__spec__" 169 .none)::((owD P "__annotations__" 170 (.ref 6))::((owD P "__builtins__" 171 (.ref 4))::((owD P "__file__" 173 (.str "/claim/cut.py" 172))::((owD P "__cached__" 174 .none)::((owD P "_wall" 193 (.ref 21))::((owD P "PlanError" 213 (.ref 31))::((owD P "NoFrame" 229 (.ref 44))::((owD P "NoAsk" 245 (.ref 56))::((owD P "NoTurn" 270 (.ref 75))::((owD P "NoTree" 286 (.ref 87))::((owD P "NoOrder" 302 (.ref 99))::[]))))))))))))))))) 16) #[])
def o12a:Obj:=(Obj.mk .none none (Data.fields (List.toArray ((.int 1 0)::((.int 0 0)::((.ref 20)::((.int 5 0)::((.int 0 0)::((.ref 27)::((.int 7 0)::((.int 0 0)::((.ref 40)::((.int 9 0)::((.int 0 0)::((.ref 52)::((.int 11 0)::((.int 0 0)::((.ref 64)::((.int 16 0)::((.int 0 0)::((.ref 83)::((.int 18 0)::((.int 0 0)::((.ref 95)::[]))))))))))))))))))))))) #[])
def o31a:Obj:=(Obj.mk (.type "type") none (Data.cls (ClassData.mk "PlanError" ((.type "ValueError")::[]) ((.ref 31)::((.type "ValueError")::((.type "Exception")::((.type "BaseException")::((.type "object")::[]))))) 30 "PlanError" true [] ((.ref 44)::((.ref 56)::((.ref 75)::((.ref 87)::((.ref 99)::[]))))) false none false)) (List.toArray ((some (.ref 22))::(none::((some (.str "PlanError" 196))::((some (.str "PlanError" 204))::((some (.builtin "ValueError.__new__"))::((some (.bool true))::[]))))))))
def o3b (P:Params):Obj:=(Obj.mk (.type "dict") none (Data.dict (List.toArray ((owD P "__name__" 165 (.str "everyplan.errors" 194))::((owD P "__doc__" 166 .none)::((owD P "__package__" 167 .none)::((owD P "__loader__" 168 (.builtin "__main__.__loader__#opaque"))::((owD P "__spec__" 169 .none)::((owD P "__annotations__" 170 (.ref 6))::((owD P "__builtins__" 171 (.ref 4))::((owD P "__file__" 173 (.str "/claim/cut.py" 172))::((owD P "__cached__" 174 .none)::((owD P "_wall" 193 (.ref 21))::((owD P "PlanError" 213 (.ref 31))::((owD P "NoFrame" 229 (.ref 44))::((owD P "NoAsk" 245 (.ref 56))::((owD P "NoTurn" 270 (.ref 75))::((owD P "NoTree" 286 (.ref 87))::((owD P "NoOrder" 302 (.ref 99))::((owD P "NoPlan" 318 (.ref 111))::((owD P "NoMore" 334 (.ref 123))::((owD P "NoText" 350 (.ref 135))::((owD P "NoRow" 366 (.ref 147))::((owD P "NoName" 382 (.ref 159))::((owD P "NoKeep" 407 (.ref 178))::[]))))))))))))))))))))))) 22) #[])
def o12b:Obj:=(Obj.mk .none none (Data.fields (List.toArray ((.int 1 0)::((.int 0 0)::((.ref 20)::((.int 5 0)::((.int 0 0)::((.ref 27)::((.int 7 0)::((.int 0 0)::((.ref 40)::((.int 9 0)::((.int 0 0)::((.ref 52)::((.int 11 0)::((.int 0 0)::((.ref 64)::((.int 16 0)::((.int 0 0)::((.ref 83)::((.int 18 0)::((.int 0 0)::((.ref 95)::((.int 20 0)::((.int 0 0)::((.ref 107)::((.int 22 0)::((.int 0 0)::((.ref 119)::((.int 24 0)::((.int 0 0)::((.ref 131)::((.int 26 0)::((.int 0 0)::((.ref 143)::((.int 28 0)::((.int 0 0)::((.ref 155)::((.int 30 0)::((.int 0 0)::((.ref 167)::[]))))))))))))))))))))))))))))))))))))))))) #[])
def o31b:Obj:=(Obj.mk (.type "type") none (Data.cls (ClassData.mk "PlanError" ((.type "ValueError")::[]) ((.ref 31)::((.type "ValueError")::((.type "Exception")::((.type "BaseException")::((.type "object")::[]))))) 30 "PlanError" true [] ((.ref 44)::((.ref 56)::((.ref 75)::((.ref 87)::((.ref 99)::((.ref 111)::((.ref 123)::((.ref 135)::((.ref 147)::((.ref 159)::((.ref 178)::[]))))))))))) false none false)) (List.toArray ((some (.ref 22))::(none::((some (.str "PlanError" 196))::((some (.str "PlanError" 204))::((some (.builtin "ValueError.__new__"))::((some (.bool true))::[]))))))))
def o3c (P:Params):Obj:=(Obj.mk (.type "dict") none (Data.dict (List.toArray ((owD P "__name__" 165 (.str "everyplan.trees" 455))::((owD P "__doc__" 166 .none)::((owD P "__package__" 167 .none)::((owD P "__loader__" 168 (.builtin "__main__.__loader__#opaque"))::((owD P "__spec__" 169 .none)::((owD P "__annotations__" 170 (.ref 6))::((owD P "__builtins__" 171 (.ref 4))::((owD P "__file__" 173 (.str "/claim/cut.py" 172))::((owD P "__cached__" 174 .none)::((owD P "_wall" 193 (.ref 21))::((owD P "PlanError" 213 (.ref 31))::((owD P "NoFrame" 229 (.ref 44))::((owD P "NoAsk" 245 (.ref 56))::((owD P "NoTurn" 270 (.ref 75))::((owD P "NoTree" 286 (.ref 87))::((owD P "NoOrder" 302 (.ref 99))::((owD P "NoPlan" 318 (.ref 111))::((owD P "NoMore" 334 (.ref 123))::((owD P "NoText" 350 (.ref 135))::((owD P "NoRow" 366 (.ref 147))::((owD P "NoName" 382 (.ref 159))::((owD P "NoKeep" 407 (.ref 178))::((owD P "Late" 432 (.ref 197))::((owD P "is_whole" 441 (.ref 206))::((owD P "rank" 448 (.ref 213))::((owD P "row_rank" 454 (.ref 218))::((owD P "LEAST_MOST" 458 (.int 3 457))::((owD P "GREATEST_MOST" 460 (.int 9 459))::((owD P "pair_rank" 467 (.ref 225))::((owD P "first_pair" 474 (.ref 232))::((owD P "shape_of" 480 (.ref 237))::((owD P "things_of" 487 (.ref 244))::((owD P "room_of" 495 (.ref 251))::((owD P "is_too_small" 503 (.ref 258))::((owD P "shapes_of" 513 (.ref 265))::((owD P "place_behind" 519 (.ref 270))::((owD P "put_beneath" 530 (.ref 277))::((owD P "mended" 541 (.ref 284))::((owD P "taken_beneath" 547 (.ref 289))::((owD P "pairs_beneath" 556 (.ref 296))::[]))))))))))))))))))))))))))))))))))))))))) 40) #[])
def o12c:Obj:=(Obj.mk .none none (Data.fields (List.toArray ((.int 1 0)::((.int 0 0)::((.ref 20)::((.int 5 0)::((.int 0 0)::((.ref 27)::((.int 7 0)::((.int 0 0)::((.ref 40)::((.int 9 0)::((.int 0 0)::((.ref 52)::((.int 11 0)::((.int 0 0)::((.ref 64)::((.int 16 0)::((.int 0 0)::((.ref 83)::((.int 18 0)::((.int 0 0)::((.ref 95)::((.int 20 0)::((.int 0 0)::((.ref 107)::((.int 22 0)::((.int 0 0)::((.ref 119)::((.int 24 0)::((.int 0 0)::((.ref 131)::((.int 26 0)::((.int 0 0)::((.ref 143)::((.int 28 0)::((.int 0 0)::((.ref 155)::((.int 30 0)::((.int 0 0)::((.ref 167)::((.int 35 0)::((.int 0 0)::((.ref 186)::((.int 41 0)::((.int 0 0)::((.ref 205)::((.int 43 0)::((.int 0 0)::((.ref 212)::((.int 49 0)::((.int 0 0)::((.ref 217)::((.int 54 0)::((.int 0 0)::((.ref 224)::((.int 56 0)::((.int 0 0)::((.ref 231)::((.int 60 0)::((.int 0 0)::((.ref 236)::((.int 64 0)::((.int 0 0)::((.ref 243)::((.int 66 0)::((.int 0 0)::((.ref 250)::((.int 68 0)::((.int 0 0)::((.ref 257)::((.int 70 0)::((.int 0 0)::((.ref 264)::((.int 75 0)::((.int 0 0)::((.ref 269)::((.int 78 0)::((.int 0 0)::((.ref 276)::((.int 84 0)::((.int 0 0)::((.ref 283)::((.int 90 0)::((.int 0 0)::((.ref 288)::((.int 97 0)::((.int 0 0)::((.ref 295)::[]))))))))))))))))))))))))))))))))))))))))))))))))))))))))))))))))))))))))))))))))))))))))) #[])
noncomputable def ows0 (P:Params) (v3:Obj) (v12:Obj) (v31:Obj) (l:List Obj):List Obj:=(W.boot_o_0 P)::(W.boot_o_1 P)::(W.boot_o_2 P)::v3::(W.boot_o_4 P)::(W.boot_o_5 P)::(W.boot_o_6 P)::(W.boot_o_7 P)::(W.boot_o_8 P)::(W.boot_o_9 P)::(W.boot_o_10 P)::(q1 )::v12::(q2 "<module>" 182 183 184 1 11 12 185 186)::(q3 13 3 "__main__" 164)::(q1 )::(q4 )::(q5 "k" 190)::(q1 )::(q6 "_wall" 0)::o20::o21::(Obj.mk (.type "tuple") none (Data.seq (List.toArray ((.type "ValueError")::[])) 0) #[])::(q9 )::(q10 P 203 205 "PlanError" 204 207 5 206 208 29)::(q1 )::(q4 )::(q2 "PlanError" 198 199 200 5 25 26 201 202)::(q3 27 24 "everyplan.errors" 194)::(q1 )::o30 P::v31::(Obj.mk (.type "getset_descriptor") none (Data.fields (List.toArray ((.str "__weakref__" 209)::((.ref 31)::((.builtin "ExceptionGroup.__weakref__")::(.none::[])))))) #[])::(q12 31)::(q13 31)::(q14 )::(q9 )::(q10 P 221 223 "NoFrame" 222 225 7 224 226 42)::(q1 )::(q4 )::(q2 "NoFrame" 216 217 218 7 38 39 219 220)::(q3 40 37 "everyplan.errors" 194)::(q1 )::o43 P::o44::(q12 44)::(q13 44)::(q14 )::(q9 )::(q10 P 237 239 "NoAsk" 238 241 9 240 242 54)::(q1 )::(q4 )::(q2 "NoAsk" 232 233 234 9 50 51 235 236)::(q3 52 49 "everyplan.errors" 194)::(q1 )::o55 P::o56::(q12 56)::(q13 56)::(q14 )::(q9 )::(q17 P 253 255 "NoTurn" 254 257 11 256 265 72 267 73)::(q1 )::(q18 13 71)::(q2 "NoTurn" 248 249 250 11 62 63 251 252)::(q3 64 61 "everyplan.errors" 194)::(q1 )::(q4 )::(q19 "self" 261 "place" 262)::(q1 )::(q20 "__init__" "NoTurn.__init__" 5 0)::o71::o72::(q5 "place" 266)::o74 P::o75::(q12 75)::(q13 75)::(q14 )::(q9 )::(q10 P 278 280 "NoTree" 279 282 16 281 283 85)::(q1 )::(q4 )::(q2 "NoTree" 273 274 275 16 81 82 276 277)::(q3 83 80 "everyplan.errors" 194)::(q1 )::o86 P::o87::(q12 87)::(q13 87)::(q14 )::(q9 )::(q10 P 294 296 "NoOrder" 295 298 18 297 299 97)::(q1 )::(q4 )::(q2 "NoOrder" 289 290 291 18 93 94 292 293)::(q3 95 92 "everyplan.errors" 194)::(q1 )::o98 P::o99::(q12 99)::(q13 99)::l
noncomputable def ows1 (P:Params) (l:List Obj):List Obj:=(q14 )::(q9 )::(q10 P 310 312 "NoPlan" 311 314 20 313 315 109)::(q1 )::(q4 )::(q2 "NoPlan" 305 306 307 20 105 106 308 309)::(q3 107 104 "everyplan.errors" 194)::(q1 )::o110 P::o111::(q12 111)::(q13 111)::(q14 )::(q9 )::(q10 P 326 328 "NoMore" 327 330 22 329 331 121)::(q1 )::(q4 )::(q2 "NoMore" 321 322 323 22 117 118 324 325)::(q3 119 116 "everyplan.errors" 194)::(q1 )::o122 P::o123::(q12 123)::(q13 123)::(q14 )::(q9 )::(q10 P 342 344 "NoText" 343 346 24 345 347 133)::(q1 )::(q4 )::(q2 "NoText" 337 338 339 24 129 130 340 341)::(q3 131 128 "everyplan.errors" 194)::(q1 )::o134 P::o135::(q12 135)::(q13 135)::(q14 )::(q9 )::(q10 P 358 360 "NoRow" 359 362 26 361 363 145)::(q1 )::(q4 )::(q2 "NoRow" 353 354 355 26 141 142 356 357)::(q3 143 140 "everyplan.errors" 194)::(q1 )::o146 P::o147::(q12 147)::(q13 147)::(q14 )::(q9 )::(q10 P 374 376 "NoName" 375 378 28 377 379 157)::(q1 )::(q4 )::(q2 "NoName" 369 370 371 28 153 154 372 373)::(q3 155 152 "everyplan.errors" 194)::(q1 )::o158 P::o159::(q12 159)::(q13 159)::(q14 )::(q9 )::(q17 P 390 392 "NoKeep" 391 394 30 393 402 175 404 176)::(q1 )::(q18 32 174)::(q2 "NoKeep" 385 386 387 30 165 166 388 389)::(q3 167 164 "everyplan.errors" 194)::(q1 )::(q4 )::(q19 "self" 398 "broken" 399)::(q1 )::(q20 "__init__" "NoKeep.__init__" 13 0)::o174::o175::(q5 "broken" 403)::o177 P::o178::(q12 178)::(q13 178)::l
noncomputable def ows2 (P:Params) (l:List Obj):List Obj:=(q14 )::(q9 )::(q17 P 415 417 "Late" 416 419 35 418 427 194 429 195)::(q1 )::(q18 37 193)::(q2 "Late" 410 411 412 35 184 185 413 414)::(q3 186 183 "everyplan.errors" 194)::(q1 )::(q4 )::(q19 "self" 423 "why" 424)::(q1 )::(q20 "__init__" "Late.__init__" 14 0)::o193::o194::(q5 "why" 428)::o196 P::o197::(q12 197)::(q13 197)::(q1 )::(q4 )::(q5 "thing" 438)::(q1 )::(q6 "is_whole" 16)::o205::o206::(q1 )::(q4 )::(q5 "value" 445)::(q1 )::(q6 "rank" 17)::o212::o213::(q1 )::(q4 )::(q6 "row_rank" 18)::o217::o218::(q1 )::(q4 )::(q5 "pair" 464)::(q1 )::(q6 "pair_rank" 22)::o224::o225::(q1 )::(q4 )::(q5 "shape" 471)::(q1 )::(q6 "first_pair" 23)::o231::o232::(q1 )::(q4 )::(q6 "shape_of" 24)::o236::o237::(q1 )::(q4 )::(q5 "shape" 484)::(q1 )::(q6 "things_of" 25)::o243::o244::(q1 )::(q4 )::(q19 "word" 491 "most" 492)::(q1 )::(q6 "room_of" 26)::o250::o251::(q1 )::(q4 )::(q19 "shape" 499 "most" 500)::(q1 )::(q6 "is_too_small" 27)::o257::o258::(q1 )::(q4 )::(Obj.mk (.type "tuple") none (Data.seq (List.toArray ((.str "word" 507)::((.str "things" 508)::((.str "most" 509)::((.str "half" 510)::[]))))) 0) #[])::(q1 )::(q6 "shapes_of" 28)::o264::o265::(q1 )::(q4 )::(q6 "place_behind" 29)::o269::o270::(q1 )::(q4 )::(q23 "shape" 523 "pair" 524 "most" 525 "things" 526 "place" 527)::(q1 )::(q6 "put_beneath" 30)::o276::o277::(q1 )::(q4 )::(q23 "kids" 534 "place" 535 "most" 536 "begin" 537 "two" 538)::(q1 )::(q6 "mended" 31)::o283::o284::(q1 )::(q4 )::(q6 "taken_beneath" 32)::o288::o289::(q1 )::(q4 )::(q24 "shape" 551 "found" 552 "kid" 553)::(q1 )::(q6 "pairs_beneath" 33)::o295::o296::l
noncomputable def ows3 (P:Params) (l:List Obj):List Obj:=(q1 )::(q9 )::(Obj.mk (.type "dict") none (Data.dict (List.toArray ((owD P "__module__" 564 (.str "everyplan.trees" 455))::((owD P "__qualname__" 566 (.str "Tree" 565))::((owD P "__firstlineno__" 568 (.int 104 567))::((owD P "__init__" 576 (.ref 310))::((owD P "has" 585 (.ref 317))::((owD P "put" 596 (.ref 324))::((owD P "take" 607 (.ref 331))::((owD P "pairs" 614 (.ref 338))::((owD P "between" 623 (.ref 345))::((owD P "shape" 630 (.ref 352))::((owD P "many" 637 (.ref 359))::((owD P "__static_attributes__" 641 (.ref 360))::[]))))))))))))) 12) #[])::(q1 )::(Obj.mk .none none (Data.fields (List.toArray ((.int 106 0)::((.int 4 0)::((.ref 309)::((.int 113 0)::((.int 4 0)::((.ref 316)::((.int 119 0)::((.int 4 0)::((.ref 323)::((.int 127 0)::((.int 4 0)::((.ref 330)::((.int 137 0)::((.int 4 0)::((.ref 337)::((.int 140 0)::((.int 4 0)::((.ref 344)::((.int 143 0)::((.int 4 0)::((.ref 351)::((.int 146 0)::((.int 4 0)::((.ref 358)::[])))))))))))))))))))))))))) #[])::(q2 "Tree" 559 560 561 104 300 301 562 563)::(q3 302 299 "everyplan.trees" 455)::(q1 )::(q4 )::(q19 "self" 572 "most" 573)::(q1 )::(q20 "__init__" "Tree.__init__" 34 0)::o309::o310::(q1 )::(q4 )::(q24 "self" 580 "pair" 581 "shape" 582)::(q1 )::(q20 "has" "Tree.has" 34 1)::o316::o317::(q1 )::(q4 )::(q23 "self" 589 "values" 590 "number" 591 "pair" 592 "found" 593)::(q1 )::(q20 "put" "Tree.put" 34 2)::o323::o324::(q1 )::(q4 )::(q23 "self" 600 "values" 601 "number" 602 "pair" 603 "shape" 604)::(q1 )::(q20 "take" "Tree.take" 34 3)::o330::o331::(q1 )::(q4 )::(q5 "self" 611)::(q1 )::(q20 "pairs" "Tree.pairs" 34 4)::o337::o338::(q1 )::(q4 )::(q24 "self" 618 "low" 619 "high" 620)::(q1 )::(q20 "between" "Tree.between" 34 5)::o344::o345::(q1 )::(q4 )::(q5 "self" 627)::(q1 )::(q20 "shape" "Tree.shape" 34 6)::o351::o352::(q1 )::(q4 )::(q5 "self" 634)::(q1 )::(q20 "many" "Tree.many" 34 7)::o358::o359::(q24 "most" 638 "top" 639 "total" 640)::o361 P::o362::(Obj.mk (.type "getset_descriptor") none (Data.fields (List.toArray ((.str "__dict__" 642)::((.ref 362)::((.builtin "function.__dict__")::((.builtin "function.__dict__#set")::[])))))) #[])::(Obj.mk (.type "getset_descriptor") none (Data.fields (List.toArray ((.str "__weakref__" 644)::((.ref 362)::((.builtin "ExceptionGroup.__weakref__")::(.none::[])))))) #[])::(q12 362)::(q13 362)::(q1 )::(q4 )::(q19 "_law_script" 654 "_law_way" 655)::(q1 )::(q6 "_law_begin" 36)::o372::o373::(q1 )::(q4 )::(q24 "_law_state" 662 "_law_most" 663 "_law_found" 664)::(q1 )::(q6 "_law_digit" 37)::o379::o380::(q1 )::(q4 )::(q23 "_law_state" 671 "_law_most" 672 "_law_script" 673 "_law_at" 674 "_law_cell" 675)::(q1 )::(q6 "_law_mixed" 38)::o386::o387::(q1 )::(q4 )::(q19 "_law_state" 682 "_law_most" 683)::(q1 )::(q6 "_law_take" 39)::o393::o394::(q1 )::(q4 )::(q5 "_law_thing" 690)::(q1 )::(q6 "_law_order" 40)::o400::o401::(q1 )::(q4 )::(q6 "_law_pair_order" 41)::o405::o406::(q1 )::(q4 )::(Obj.mk (.type "tuple") none (Data.seq (List.toArray ((.str "_law_state" 703)::((.str "_law_values" 704)::((.str "_law_k" 705)::((.str "_law_some" 706)::[]))))) 0) #[])::(q1 )::(q6 "_law_pair" 42)::o412::o413::(q1 )::(q4 )::(q23 "_law_tree" 713 "_law_way" 714 "_law_pair_here" 715 "_law_caught" 716 "e" 717)::(q1 )::(q6 "_law_refused" 43)::o419::o420::(q1 )::(q4 )::(q5 "_law_caught" 724)::(q1 )::(q6 "_law_is_no_tree" 44)::o426::o427::(q1 )::(q4 )::(q24 "_law_thing" 731 "_law_caught" 732 "e" 733)::(q1 )::(q6 "_law_not_made" 45)::o433::o434::(q1 )::(q4 )::(q6 "_law_walked" 46)::o438::o439::(q1 )::(q4 )::(q5 "_law_found" 746)::(q1 )::(q6 "_law_whole" 47)::o445::o446::(q1 )::(q4 )::(Obj.mk (.type "tuple") none (Data.seq (List.toArray ((.str "_law_tree" 753)::((.str "_law_most" 754)::((.str "_law_held" 755)::((.str "_law_is_asked" 756)::((.str "_law_due" 757)::((.str "_law_count" 758)::((.str "_law_shape" 759)::((.str "_law_there" 760)::((.str "_law_found" 761)::[])))))))))) 0) #[])::(q1 )::(q6 "_law_stands" 48)::o452::o453::(q1 )::(q4 )::(Obj.mk (.type "tuple") none (Data.seq (List.toArray ((.str "_law_state" 768)::((.str "_law_tree" 769)::((.str "_law_held" 770)::((.str "_law_k" 771)::((.str "_law_many" 772)::((.str "_law_pair_here" 773)::((.str "_law_way" 774)::[])))))))) 0) #[])::(q1 )::(q6 "_law_deed" 49)::o459::o460::(q1 )::(q4 )::(Obj.mk (.type "tuple") none (Data.seq (List.toArray ((.str "_law_script" 781)::((.str "_law_state" 782)::((.str "_law_most" 783)::((.str "_law_many" 784)::((.str "_law_tree" 785)::((.str "_law_twin" 786)::((.str "_law_number" 787)::((.str "_law_held" 788)::((.str "_law_k" 789)::((.str "_law_pair_here" 790)::[]))))))))))) 0) #[])::(q1 )::(q6 "law" 50)::o466::o467::l
noncomputable def owZ:Params→Heap:=fun P=>.mk (.mk ((ows0 P (o3 P) (o12) (o31) (ows1 P  (ows2 P  (ows3 P  [])))))) owLi
noncomputable def owM:Params→Heap:=fun P=>.mk (.mk ((W.boot_o_0 P)::(W.boot_o_1 P)::(W.boot_o_2 P)::(W.boot_o_3 P)::(W.boot_o_4 P)::(W.boot_o_5 P)::(W.boot_o_6 P)::(W.boot_o_7 P)::(W.boot_o_8 P)::(W.boot_o_9 P)::(W.boot_o_10 P)::(q1 )::o12z::(q2 "<module>" 182 183 184 1 11 12 185 186)::(q3 13 3 "__main__" 164)::[])) owLi
noncomputable def owN0:Params→Heap:=fun P=>.mk (.mk ((ows0 P (o3a P) (o12a) (o31a) []))) owLi
noncomputable def owN1:Params→Heap:=fun P=>.mk (.mk ((ows0 P (o3b P) (o12b) (o31b) (ows1 P  [])))) owLi
noncomputable def owN2:Params→Heap:=fun P=>.mk (.mk ((ows0 P (o3c P) (o12c) (o31) (ows1 P  (ows2 P  []))))) owLi
def owB:List Stmt:=behindTheImports owP
def owEn:Env:=⟨owP.main.scope,mainNs,mainNs,[],Str.empty,none,.ref 13,some 14,0⟩
abbrev owCo:Code:=.body owB owEn
def owF:Params→Frag:=fun P=>
 ((nat_lit 3),o3 P) ::
 ((nat_lit 20),o20) ::
 ((nat_lit 21),o21) ::
 ((nat_lit 30),o30 P) ::
 ((nat_lit 31),o31) ::
 ((nat_lit 43),o43 P) ::
 ((nat_lit 44),o44) ::
 ((nat_lit 55),o55 P) ::
 ((nat_lit 56),o56) ::
 ((nat_lit 71),o71) ::
 ((nat_lit 72),o72) ::
 ((nat_lit 74),o74 P) ::
 ((nat_lit 75),o75) ::
 ((nat_lit 86),o86 P) ::
 ((nat_lit 87),o87) ::
 ((nat_lit 98),o98 P) ::
 ((nat_lit 99),o99) ::
 ((nat_lit 110),o110 P) ::
 ((nat_lit 111),o111) ::
 ((nat_lit 122),o122 P) ::
 ((nat_lit 123),o123) ::
 ((nat_lit 134),o134 P) ::
 ((nat_lit 135),o135) ::
 ((nat_lit 146),o146 P) ::
 ((nat_lit 147),o147) ::
 ((nat_lit 158),o158 P) ::
 ((nat_lit 159),o159) ::
 ((nat_lit 174),o174) ::
 ((nat_lit 175),o175) ::
 ((nat_lit 177),o177 P) ::
 ((nat_lit 178),o178) ::
 ((nat_lit 193),o193) ::
 ((nat_lit 194),o194) ::
 ((nat_lit 196),o196 P) ::
 ((nat_lit 197),o197) ::
 ((nat_lit 205),o205) ::
 ((nat_lit 206),o206) ::
 ((nat_lit 212),o212) ::
 ((nat_lit 213),o213) ::
 ((nat_lit 217),o217) ::
 ((nat_lit 218),o218) ::
 ((nat_lit 224),o224) ::
 ((nat_lit 225),o225) ::
 ((nat_lit 231),o231) ::
 ((nat_lit 232),o232) ::
 ((nat_lit 236),o236) ::
 ((nat_lit 237),o237) ::
 ((nat_lit 243),o243) ::
 ((nat_lit 244),o244) ::
 ((nat_lit 250),o250) ::
 ((nat_lit 251),o251) ::
 ((nat_lit 257),o257) ::
 ((nat_lit 258),o258) ::
 ((nat_lit 264),o264) ::
 ((nat_lit 265),o265) ::
 ((nat_lit 269),o269) ::
 ((nat_lit 270),o270) ::
 ((nat_lit 276),o276) ::
 ((nat_lit 277),o277) ::
 ((nat_lit 283),o283) ::
 ((nat_lit 284),o284) ::
 ((nat_lit 288),o288) ::
 ((nat_lit 289),o289) ::
 ((nat_lit 295),o295) ::
 ((nat_lit 296),o296) ::
 ((nat_lit 309),o309) ::
 ((nat_lit 310),o310) ::
 ((nat_lit 316),o316) ::
 ((nat_lit 317),o317) ::
 ((nat_lit 323),o323) ::
 ((nat_lit 324),o324) ::
 ((nat_lit 330),o330) ::
 ((nat_lit 331),o331) ::
 ((nat_lit 337),o337) ::
 ((nat_lit 338),o338) ::
 ((nat_lit 344),o344) ::
 ((nat_lit 345),o345) ::
 ((nat_lit 351),o351) ::
 ((nat_lit 352),o352) ::
 ((nat_lit 358),o358) ::
 ((nat_lit 359),o359) ::
 ((nat_lit 361),o361 P) ::
 ((nat_lit 362),o362) ::
 ((nat_lit 372),o372) ::
 ((nat_lit 373),o373) ::
 ((nat_lit 379),o379) ::
 ((nat_lit 380),o380) ::
 ((nat_lit 386),o386) ::
 ((nat_lit 387),o387) ::
 ((nat_lit 393),o393) ::
 ((nat_lit 394),o394) ::
 ((nat_lit 400),o400) ::
 ((nat_lit 401),o401) ::
 ((nat_lit 405),o405) ::
 ((nat_lit 406),o406) ::
 ((nat_lit 412),o412) ::
 ((nat_lit 413),o413) ::
 ((nat_lit 419),o419) ::
 ((nat_lit 420),o420) ::
 ((nat_lit 426),o426) ::
 ((nat_lit 427),o427) ::
 ((nat_lit 433),o433) ::
 ((nat_lit 434),o434) ::
 ((nat_lit 438),o438) ::
 ((nat_lit 439),o439) ::
 ((nat_lit 445),o445) ::
 ((nat_lit 446),o446) ::
 ((nat_lit 452),o452) ::
 ((nat_lit 453),o453) ::
 ((nat_lit 459),o459) ::
 ((nat_lit 460),o460) ::
 ((nat_lit 466),o466) ::
 ((nat_lit 467),o467) ::
 []
def owA:List Nat:=(nat_lit 3)::(nat_lit 20)::(nat_lit 21)::(nat_lit 30)::(nat_lit 31)::(nat_lit 43)::(nat_lit 44)::(nat_lit 55)::(nat_lit 56)::(nat_lit 71)::(nat_lit 72)::(nat_lit 74)::(nat_lit 75)::(nat_lit 86)::(nat_lit 87)::(nat_lit 98)::(nat_lit 99)::(nat_lit 110)::(nat_lit 111)::(nat_lit 122)::(nat_lit 123)::(nat_lit 134)::(nat_lit 135)::(nat_lit 146)::(nat_lit 147)::(nat_lit 158)::(nat_lit 159)::(nat_lit 174)::(nat_lit 175)::(nat_lit 177)::(nat_lit 178)::(nat_lit 193)::(nat_lit 194)::(nat_lit 196)::(nat_lit 197)::(nat_lit 205)::(nat_lit 206)::(nat_lit 212)::(nat_lit 213)::(nat_lit 217)::(nat_lit 218)::(nat_lit 224)::(nat_lit 225)::(nat_lit 231)::(nat_lit 232)::(nat_lit 236)::(nat_lit 237)::(nat_lit 243)::(nat_lit 244)::(nat_lit 250)::(nat_lit 251)::(nat_lit 257)::(nat_lit 258)::(nat_lit 264)::(nat_lit 265)::(nat_lit 269)::(nat_lit 270)::(nat_lit 276)::(nat_lit 277)::(nat_lit 283)::(nat_lit 284)::(nat_lit 288)::(nat_lit 289)::(nat_lit 295)::(nat_lit 296)::(nat_lit 309)::(nat_lit 310)::(nat_lit 316)::(nat_lit 317)::(nat_lit 323)::(nat_lit 324)::(nat_lit 330)::(nat_lit 331)::(nat_lit 337)::(nat_lit 338)::(nat_lit 344)::(nat_lit 345)::(nat_lit 351)::(nat_lit 352)::(nat_lit 358)::(nat_lit 359)::(nat_lit 361)::(nat_lit 362)::(nat_lit 372)::(nat_lit 373)::(nat_lit 379)::(nat_lit 380)::(nat_lit 386)::(nat_lit 387)::(nat_lit 393)::(nat_lit 394)::(nat_lit 400)::(nat_lit 401)::(nat_lit 405)::(nat_lit 406)::(nat_lit 412)::(nat_lit 413)::(nat_lit 419)::(nat_lit 420)::(nat_lit 426)::(nat_lit 427)::(nat_lit 433)::(nat_lit 434)::(nat_lit 438)::(nat_lit 439)::(nat_lit 445)::(nat_lit 446)::(nat_lit 452)::(nat_lit 453)::(nat_lit 459)::(nat_lit 460)::(nat_lit 466)::(nat_lit 467)::[]
theorem owE (P:Params):owA=(owF P).map (·.1):=rfl
abbrev owH:Hook:=kHook owF owA owE
set_option maxHeartbeats 0 in
theorem ow1 (w:World):((boot_heap w.params).isNs mainGlobals&&(#[]:Array GenState).size==0,(boot_heap w.params).objs.size,(boot_heap w.params).nsMap mainGlobals "__annotations__")=(true,11,some (.ref 6)):=by kernel_rfl
set_option maxHeartbeats 0 in
theorem owc (w:World) (os:OsState):topGo treeTable owP w 11 (some (.ref 6)) 12 ⟨boot_heap w.params,#[],boot_drawn,boot_toks,os⟩ (topStub owP)=some (⟨owM w.params,#[],⟨0,0,0,0⟩,187,os⟩,⟨denote treeTable owCo,owCo,⟨0,0,0,0⟩,[topFrame ⟨0,0,0,0⟩]⟩):=by kernel_rfl
set_option maxHeartbeats 0 in
theorem owd (w:World) (os:OsState):segRun treeTable owP w 11 (some (.ref 6)) 1 1 ⟨owM w.params,#[],⟨0,0,0,0⟩,187,os⟩ (blockOf owB owEn owCo ⟨0,0,0,0⟩ [topFrame ⟨0,0,0,0⟩])=some (.next,⟨owM w.params,#[],⟨0,0,0,0⟩,187,os⟩,owCo,⟨0,0,0,0⟩):=by kernel_rfl
set_option maxHeartbeats 0 in
theorem owe0 (w:World) (os:OsState):segRun treeTable owP w 11 (some (.ref 6)) 1 1327 ⟨owM w.params,#[],⟨0,0,0,0⟩,187,os⟩ (piecesOf (owB.take 8) owEn owCo ⟨0,0,0,0⟩ [topFrame ⟨0,0,0,0⟩])=some (.next,⟨owN0 w.params,#[],⟨0,0,0,0⟩,303,os⟩,owCo,⟨18,0,19,8⟩):=by kernel_rfl
set_option maxHeartbeats 0 in
theorem owe1 (w:World) (os:OsState):segRun treeTable owP w 11 (some (.ref 6)) 1 1316 ⟨owN0 w.params,#[],⟨0,0,0,0⟩,303,os⟩ (piecesOf ((owB.drop 8).take 6) owEn owCo ⟨18,0,19,8⟩ [topFrame ⟨0,0,0,0⟩])=some (.next,⟨owN1 w.params,#[],⟨0,0,0,0⟩,408,os⟩,owCo,⟨30,0,34,28⟩):=by kernel_rfl
set_option maxHeartbeats 0 in
theorem owe2 (w:World) (os:OsState):segRun treeTable owP w 11 (some (.ref 6)) 1 721 ⟨owN1 w.params,#[],⟨0,0,0,0⟩,408,os⟩ (piecesOf (((owB.drop 8).drop 6).take 20) owEn owCo ⟨30,0,34,28⟩ [topFrame ⟨0,0,0,0⟩])=some (.next,⟨owN2 w.params,#[],⟨0,0,0,0⟩,557,os⟩,owCo,⟨97,0,103,16⟩):=by kernel_rfl
set_option maxHeartbeats 0 in
theorem owg (w:World) (os:OsState):topRun treeTable owP w 11 (some (.ref 6)) 1023 ⟨owN2 w.params,#[],⟨0,0,0,0⟩,557,os⟩ (restOf (((owB.drop 8).drop 6).drop 20) owEn owCo ⟨97,0,103,16⟩ [topFrame ⟨0,0,0,0⟩])=some ⟨owZ w.params,#[],⟨0,0,0,0⟩,794,os⟩:=by kernel_rfl
theorem ow2 (w:World) (os:OsState):topRun treeTable owP w 11 (some (.ref 6)) 4400 ⟨boot_heap w.params,#[],boot_drawn,boot_toks,os⟩ (topStub owP)=some ⟨owZ w.params,#[],⟨0,0,0,0⟩,794,os⟩:=
 go_top (N:=4388) (owc w os) (piece_block (N:=4387) (owd w os) ((List.take_append_drop 8 owB)▸piece_app (N:=3060) (owe0 w os) (((List.take_append_drop 6 (owB.drop 8))▸piece_app (N:=1744) (owe1 w os) (((List.take_append_drop 20 ((owB.drop 8).drop 6))▸piece_app (N:=1023) (owe2 w os) (owg w os)))))))
set_option maxHeartbeats 0 in
theorem ow3 (w:World):(fun os=>((staticsOk (importedModules owP.main.body) (boot_heap w.params) (owZ w.params)&&namesBound owP (owZ w.params)&&gensDone ⟨owZ w.params,#[],⟨0,0,0,0⟩,794,os⟩&&laidKept (boot_heap w.params) (owZ w.params)),
    openSeen owQ [] (importedModules owP.main.body) (fun s=>xlAt owQ [] s&&recOk [] s) true ⟨owZ w.params,#[],⟨0,0,0,0⟩,794,os⟩,Hook.obs owH ⟨owZ w.params,#[],⟨0,0,0,0⟩,794,os⟩))=fun _=>(true,openGood owQ [],Hook.val owH w):=by kernel_rfl
theorem left_own:LeftO owP owQ [] (fun s=>xlAt owQ [] s&&recOk [] s) (Hook.obs owH) (Hook.val owH) 4400:=
 LeftO.of_pieces (boot_open (by kernel_rfl) (by decide) fun _=>by kernel_rfl) ow1 ow2 rfl ow3
end K61
namespace K61
open PySem L2
section
variable {P:Program}{w:World}{K:PySem.W.Frag}{mg:Str→Option Value}{base:Heap}{tk:Addr}{td:FuncData}
def spBegin (K:PySem.W.Frag):Sp:=fun vs H Q _=>∃ a,vs=[.ref a]∧Scr K H a∧∀ (d:Addr) (B:Bs) (H':Hp),H d=none→True→StAt H' d a 10 B→Same H H'→Q (.ref d) H'
theorem scBegin:FnScope ["_law_script","_law_way"] ["_law_script"] (defScope sBegin):=⟨rfl,rfl,rfl,by decide +kernel,rfl,by decide +kernel,by decide +kernel⟩
def KV4 (a:Addr) (wy:Int):List (Key×V):=[(.inr "script",.ref a),(.inr "at",.int 1),(.inr "left",.int 0),(.inr "way",.int wy)]
theorem kv4 (a:Addr) (wy:Int):mergeK [] (KV4 a wy)=SK.zip (SV a 1 0 wy ⟨0,0,"",0,0,none⟩):=zdb (KV4 a wy) [] (show SK.Nodup from SK_nd)
theorem ok_begin {f:Addr}{fd:FuncData} (F:Fun K "_law_begin" "_law_begin" sBegin f fd) (B:Bt mg):FnOk P w K mg base CX0 3 f fd ["_law_script"] (spBegin K):=by
 refine F.ok scBegin (fun vs H Q E h=>?_) (fun cdv A outer s H vs Q E hr h=>?_)
 ·obtain⟨a,rfl,_⟩:=h
  rfl
 obtain⟨a,rfl,Sc,q⟩:=h
 refine⟨_,zah (zaM (i:=1) scBegin.nd rfl (Or.inl rfl) zau)
  (zah (zcR (zbz op_gt (zaw zaG (by rfl) B.len PySem.boot_len (zad (pv 0) pa_nil)) zau (nomark _)) (zak (zaM (i:=1) scBegin.nd rfl (Or.inl rfl) (zaH zcg (pe_ix ix_list (pv 0) zau (fun _ _=>rfl)) zau))) pss_nil)
  (zak (zaV (pe_disp (zcl zaq (pv 0) (zcl zaq zau (zcl zaq zau (zcl zaq (pv 1) pps_nil)))) rfl rfl (by simp) (by decide))))),?_⟩
 obtain⟨ns,hS,hl⟩:=id Sc
 have go:∀ wy:Int,∀ p,H p=none→Q (.ref p) (upd (upd H p (.dK [])) p (.dK (SK.zip (SV a 1 0 wy ⟨0,0,"",0,0,none⟩)))):=fun wy p hp=>by
  refine q p ⟨0,0,"",0,0,none⟩ _ hp trivial ⟨⟨1,0,wy,zab,by decide,by decide,by decide⟩,fun T o z=>by cases z⟩ fun c o e=>?_
  rw[zac (zae e hp),zac (zae e hp)]
  exact e
 refine⟨_,rfl,a,_,rfl,.inl hS,_,_,rfl,rfl,_,rfl,?_⟩
 refine ite2 (fun c=>?_) (fun c=>?_)
 ·have c':(0:Int)<((ns.map V.int).length:Int):=of_decide_eq_true c
  rw[List.length_map] at c'
  obtain⟨v,hv⟩:=at_int (ns:=ns) (k:=0) (by decide) c'
  refine⟨_,rfl,a,_,_,_,rfl,rfl,hS,hv,_,_,rfl,rfl,(by show(0:Int)<2;decide),?_⟩
  refine fun p hp=>⟨_,rfl,_,rfl,zab,KV4 a (v % 2),rfl,(by show 4≤15;decide),?_⟩
  rw[kv4]
  exact go (v % 2) p hp
 ·refine fun p hp=>⟨_,rfl,_,rfl,zab,KV4 a 0,rfl,(by show 4≤15;decide),?_⟩
  rw[kv4]
  exact go 0 p hp
end
end K61
set_option maxHeartbeats 1000000
namespace L2
open PySem PySem.Spec PyProof.Rows
inductive Ag where
 | v (x:PV) | o (c:OC)
abbrev GT:=List Ag→Option SSt→(PV→List OC→Option SSt→Prop)→Prop
def Sl.ag:Sl→Ag
 | .val x=>.v x
 | .own _ c=>.o c
 | .peek _ c=>.o c
inductive Ot:List Sl→List OC→List Sl→Prop where
 | nil:Ot [] [] []
 | v {x:PV}{ss ss':List Sl}{cs:List OC}:Ot ss cs ss'→Ot (.val x::ss) cs (.val x::ss')
 | o {a:Addr}{c c':OC}{ss ss':List Sl}{cs:List OC}:Ot ss cs ss'→Ot (.own a c::ss) (c'::cs) (.own a c'::ss')
abbrev AG (B:Addr→Prop) (ss:List Sl) (S:Option SSt):AS:=⟨B,ss.map some,S⟩
def spG (K:PySem.W.Frag) (T:GT):Sp:=fun vs H Q _=>∃ B ss S P,(∀ a c,Sl.peek a c∉ss)∧Rep K H (vs.map some) (AG B ss S)∧T (ss.map Sl.ag) S P ∧
 ∀ r cs ss' S' v H',P r cs S'→Ot ss cs ss'→Rep K H' (vs.map some) (AG B ss' S')→Stp (AG B ss S) H (AG B ss' S') H'→RV K (AN (AG B ss' S')) H' r v→Q v H'
def entryG (B:Addr→Prop) (N:List Str) (ss:List Sl) (S:Option SSt):AS:=⟨B,ss.map some++List.replicate (N.length-ss.length) none,S⟩
def outC:List Sl→List (Option Sl)→(List OC→Prop)→Prop
 | [],_,k=>k []
 | .val _::ss,_::rho,k=>outC ss rho k
 | .own a _::ss,some (.own b c)::rho,k=>b=a∧outC ss rho fun cs=>k (c::cs)
 | _,_,_=>False
def outP (ss:List Sl) (P:PV→List OC→Option SSt→Prop) (r:PV) (A:AS):Prop:=outC ss A.rho fun cs=>P r cs A.S
def endsG (ss:List Sl) (P:PV→List OC→Option SSt→Prop):UEnds:=⟨fun A=>outP ss P .non A,fun r A=>outP ss P r A,fun _ _=>False,fun _=>False,fun _=>False⟩
theorem outP_c {ss:List Sl}{P:PV→List OC→Option SSt→Prop}{r:PV}{B:Addr→Prop}{rho:List (Option Sl)}{S:Option SSt}:outP ss P r ⟨B,rho,S⟩=outC ss rho fun cs=>P r cs S:=rfl
theorem outC_n {rho:List (Option Sl)}{k:List OC→Prop}:outC [] rho k=k []:=by rw[outC]
theorem outC_v {x:PV}{ss:List Sl}{s:Option Sl}{rho:List (Option Sl)}{k:List OC→Prop}:outC (.val x::ss) (s::rho) k=outC ss rho k:=by rw[outC]
theorem outC_o {a:Addr}{c c':OC}{ss:List Sl}{rho:List (Option Sl)}{k:List OC→Prop}:outC (.own a c::ss) (some (.own a c')::rho) k=outC ss rho fun cs=>k (c'::cs):=by rw[outC];exact propext ⟨fun h=>h.2,fun h=>⟨rfl,h⟩⟩
theorem zeU:∀ {ss:List Sl}{rho:List (Option Sl)}{k:List OC→Prop},outC ss rho k→∃ cs ss',Ot ss cs ss'∧k cs∧∀ (i:Nat) (a:Addr) (c:OC),ss'[i]?=some (.own a c)→rho[i]?=some (some (.own a c))
 | [],rho,k,h=>by
  rw[outC] at h
  exact⟨[],[],.nil,h,fun i a c e=>by simp at e⟩
 | .val x::ss,[],k,h=>by simp [outC] at h
 | .val x::ss,s::rho,k,h=>by
  rw[outC] at h
  obtain⟨cs,ss',h1,h2,h3⟩:=zeU h
  refine⟨cs,.val x::ss',.v h1,h2,fun i a c e=>?_⟩
  cases i with
  | zero=>simp at e
  | succ i=>exact h3 i a c (by simpa using e)
 | .own a c::ss,[],k,h=>by simp [outC] at h
 | .own a c::ss,none::rho,k,h=>by simp [outC] at h
 | .own a c::ss,some (.val _)::rho,k,h=>by simp [outC] at h
 | .own a c::ss,some (.peek _ _)::rho,k,h=>by simp [outC] at h
 | .own a c::ss,some (.own b c')::rho,k,h=>by
  rw[outC] at h
  obtain⟨rfl,h⟩:=h
  obtain⟨cs,ss',h1,h2,h3⟩:=zeU h
  refine⟨c'::cs,.own b c'::ss',.o h1,h2,fun i a c e=>?_⟩
  cases i with
  | zero=>simp at e;simp [e.1,e.2]
  | succ i=>exact h3 i a c (by simpa using e)
 | .peek a c::ss,rho,k,h=>by cases rho<;>simp [outC] at h
section
variable {K:PySem.W.Frag}{H H1:Hp}{σ:St}{B:Addr→Prop}{ss ss':List Sl}{cs:List OC}{S S':Option SSt}
theorem mp_at {i:Nat}{s:Sl}:(ss.map some)[i]?=some (some s)↔ss[i]?=some s:=by
 rw[List.getElem?_map]
 cases ss[i]?<;>simp
theorem Ot.len (h:Ot ss cs ss'):ss'.length=ss.length:=by
 induction h with
 | nil=>rfl
 | v _ ih=>simp [ih]
 | o _ ih=>simp [ih]
theorem Ot.at (h:Ot ss cs ss'){i:Nat}{s:Sl} (e:ss'[i]?=some s):(∃ x,s=.val x∧ss[i]?=some (.val x))∨∃ a c c',s=.own a c'∧ss[i]?=some (.own a c):=by
 induction h generalizing i with
 | nil=>simp at e
 | v h ih=>
  cases i with
  | zero=>simp at e;exact .inl ⟨_,e.symm,rfl⟩
  | succ i=>simpa using ih (by simpa using e)
 | o h ih=>
  cases i with
  | zero=>simp at e;exact .inr ⟨_,_,_,e.symm,rfl⟩
  | succ i=>simpa using ih (by simpa using e)
theorem Ot.back (h:Ot ss cs ss'){i:Nat}{a:Addr}{c:OC} (e:ss[i]?=some (.own a c)):∃ c',ss'[i]?=some (.own a c'):=by
 induction h generalizing i with
 | nil=>simp at e
 | v h ih=>
  cases i with
  | zero=>simp at e
  | succ i=>simpa using ih (by simpa using e)
 | o h ih=>
  cases i with
  | zero=>simp at e;exact⟨_,by simp [e.1];rfl⟩
  | succ i=>simpa using ih (by simpa using e)
theorem Ot.own (h:Ot ss cs ss'){a:Addr}:Own (ss'.map some) a↔Own (ss.map some) a:=by
 constructor
 ·rintro⟨i,c,e⟩
  rcases h.at (mp_at.mp e) with ⟨x,z,_⟩ | ⟨b,c1,c2,z,q⟩
  ·cases z
  ·cases z;exact⟨i,c1,mp_at.mpr q⟩
 ·rintro⟨i,c,e⟩
  obtain⟨c',q⟩:=h.back (mp_at.mp e)
  exact⟨i,c',mp_at.mpr q⟩
theorem app_at {rho:List (Option Sl)}{n i:Nat}{s:Sl}:(rho++List.replicate n none)[i]?=some (some s)↔rho[i]?=some (some s):=by
 by_cases hi:i<rho.length
 ·rw[List.getElem?_append_left hi]
 ·rw[List.getElem?_append_right (Nat.le_of_not_lt hi),List.getElem?_replicate,List.getElem?_eq_none (Nat.le_of_not_lt hi)]
  split<;>simp
theorem app_own {rho:List (Option Sl)}{n:Nat}{a:Addr}:Own (rho++List.replicate n none) a↔Own rho a:=⟨fun⟨i,c,e⟩=>⟨i,c,app_at.mp e⟩,fun⟨i,c,e⟩=>⟨i,c,app_at.mpr e⟩⟩
theorem Rep.more {A:AS}{n:Nat} (R:Rep K H σ A):Rep K H (σ++List.replicate n none) ⟨A.B,A.rho++List.replicate n none,A.S⟩:=by
 have an:AN ⟨A.B,A.rho++List.replicate n none,A.S⟩=AN A:=funext fun a=>propext ⟨fun h=>h.imp id app_own.mp,fun h=>h.imp id app_own.mpr⟩
 refine⟨by simp [R.len],fun i s e=>?_,R.dom,fun i j a c c' e1 e2=>R.nd i j a c c' (app_at.mp e1) (app_at.mp e2),R.st,fun i a c st e1 e2=>R.pk i a c st (app_at.mp e1) e2⟩
 obtain⟨v,e1,q⟩:=R.sl i s (app_at.mp e)
 refine⟨v,by rw[List.getElem?_append_left (List.getElem?_eq_some_iff.mp e1).1];exact e1,?_⟩
 cases s with
 | val x=>show RV K (AN _) H x v;rw[an];exact q
 | own a c=>exact⟨q.1,q.2.1,by rw[an];exact q.2.2⟩
 | peek a c=>exact⟨q.1,q.2.1,by rw[an];exact q.2.2⟩
theorem out_rep {vs:List V}{A A1:AS}{σ1:St} (np:∀ a c,Sl.peek a c∉ss) (R:Rep K H (vs.map some) (AG B ss S)) (hB:A.B=B) (hS:A.S=S) (ho:∀ a,Own A.rho a↔Own (ss.map some) a) (ot:Ot ss cs ss') (hat:∀ (i:Nat) (a:Addr) (c:OC),ss'[i]?=some (.own a c)→A1.rho[i]?=some (some (.own a c)))
  (R1:Rep K H1 σ1 A1) (S1:Stp A H A1 H1):Rep K H1 (vs.map some) (AG B ss' A1.S)∧Stp (AG B ss S) H (AG B ss' A1.S) H1∧KeepV K (AN A1) (AN (AG B ss' A1.S)) H1 H1:=by
 have b1:A1.B=B:=S1.b.trans hB
 have own1:∀ a,Own (ss'.map some) a→Own A1.rho a:=fun a ⟨i,c,e⟩=>⟨i,c,hat i a c (mp_at.mp e)⟩
 have an1:∀ a,AN (AG B ss' A1.S) a→AN A1 a:=fun a h=>h.elim (fun z=>.inl (by rw[b1];exact z)) fun z=>.inr (own1 a z)
 have kw:KeepV K (AN A1) (AN (AG B ss' A1.S)) H1 H1:=⟨fun _ _ h=>h,fun a o n e=>⟨fun z=>n (an1 a z),e⟩⟩
 have St:Stp (AG B ss S) H (AG B ss' A1.S) H1:=⟨fun a o h m=>S1.fr a o h fun z=>m (z.elim (fun y=>.inl ((ho a).mp y)) fun⟨st,y1,y2⟩=>.inr ⟨st,by rw[← hS];exact y1,y2⟩),fun a h=>.inl (ot.own.mp h),rfl,S1.dm,by rw[← hS];exact S1.sd⟩
 have kp:=R.keep St
 refine⟨⟨?_,fun i s e=>?_,fun a h=>R1.dom a (by rw[b1];exact h),fun i j a c c' e1 e2=>?_,fun st h=>?_,fun i a c st e1 _=>?_⟩,St,kw⟩
 ·have:=R.len
  simp only[List.length_map] at this ⊢
  rw[ot.len];exact this
 ·have e:=mp_at.mp e
  rcases ot.at e with ⟨x,rfl,q⟩ | ⟨a,c,c',rfl,q⟩
  ·obtain⟨v,e1,rv⟩:=R.sl i _ (mp_at.mpr q)
   exact⟨v,e1,rv.imp kp⟩
  ·obtain⟨v,e1,rfl,nb,_⟩:=R.sl i _ (mp_at.mpr q)
   obtain⟨_,_,_,_,oc⟩:=R1.sl i _ (hat i a c' e)
   exact⟨_,e1,rfl,nb,oc.imp kw fun _ h=>h⟩
 ·rcases ot.at (mp_at.mp e1) with ⟨x,z,_⟩ | ⟨_,d,_,z,q⟩
  ·cases z
  ·cases z
   rcases ot.at (mp_at.mp e2) with ⟨x,z,_⟩ | ⟨_,d2,_,z,q2⟩
   ·cases z
   ·cases z
    exact R.nd i j _ _ _ (mp_at.mpr q) (mp_at.mpr q2)
 ·obtain⟨h1,h2⟩:=R1.st st h
  exact⟨by rw[b1] at h1;exact h1,h2⟩
 ·rcases ot.at (mp_at.mp e1) with ⟨x,z,_⟩ | ⟨_,d,_,z,q⟩<;>cases z
end
section
variable {P:Program}{w:World}{K:PySem.W.Frag}{mg:Str→Option Value}{base:Heap}
theorem Fun.okG {x qual:Str}{st:Stmt}{f:Addr}{fd:FuncData}{N ps:List Str}{k:Nat}{T:GT} (F:Fun K x qual st f fd) (Sc:FnScope N ps (defScope st)) (len:∀ xs S P,T xs S P→xs.length=ps.length)
  (hbody:∀ (cdv:Value) (A:Around) (outer:List Env) (s:Shared) (H:Hp) (E:XK),Room k (A.deeper (envOfC qual (defScope st) s.heap.objs.size f cdv)) →
   ∃ u,PSs (cxOf CX0 P w K mg base N qual (defScope st) f cdv A outer s H E).nox (defBody st) (liftS K u)∧∀ B ss S P,T (ss.map Sl.ag) S P→(∀ a c,Sl.peek a c∉ss)→u (endsG ss P) (entryG B N ss S)):FnOk P w K mg base CX0 (k+1) f fd ps (spG K T):=by
 have ll:∀ {vs:List V}{H:Hp}{B:Addr→Prop}{ss:List Sl}{S:Option SSt},Rep K H (vs.map some) (AG B ss S)→vs.length=ss.length:=fun R=>by simpa using R.len
 refine F.ok Sc (fun vs H Q E h=>?_) fun cdv A outer s H vs Q E hr h=>?_
 ·obtain⟨B,ss,S,P,_,R,g,_⟩:=h
  rw[ll R,← len _ _ _ g,List.length_map]
 obtain⟨B,ss,S,P,np,R,g,fin⟩:=h
 obtain⟨u,hu,q⟩:=hbody cdv A outer s H E hr
 have R0:Rep K H (start N vs) (entryG B N ss S):=by
  unfold start entryG
  rw[ll R]
  exact R.more
 have fin':∀ r A1 σ1 v H1,outP ss P r A1→Rep K H1 σ1 A1→Stp (entryG B N ss S) H A1 H1→RV K (AN A1) H1 r v→Q v H1:=fun r A1 σ1 v H1 h R1 S1 rv=>by
  obtain⟨cs,ss',ot,p,hat⟩:=zeU h
  obtain⟨R2,S2,kw⟩:=out_rep np R (A:=entryG B N ss S) rfl rfl (fun a=>app_own) ot hat R1 S1
  exact fin r cs ss' A1.S v H1 p ot R2 S2 (rv.imp kw)
 refine⟨_,hu,entryG B N ss S,endsG ss P,R0,q B ss S P g np,?_,?_,?_,?_,?_,?_⟩
 ·exact fun A1 σ1 H1 h R1 S1=>fin' _ A1 σ1 _ H1 h R1 S1 .non
 ·exact fun r A1 σ1 v H1 h R1 S1 rv=>fin' r A1 σ1 v H1 h R1 S1 rv
 ·exact fun r A1 σ1 v H0 H1 h=>h.elim
 ·exact fun i a c A1 σ1 H1 hi hld h=>h.elim
 ·exact fun A1 σ1 H1 h=>h.elim
 ·exact fun A1 σ1 H1 h=>h.elim
theorem Df.okG {x:Str}{st:Stmt}{N ps:List Str}{k:Nat}{T:GT} (D:Df K mg x st) (S:FnScope N ps (defScope st))
  (bd:∀ (kV doc pm:Value) (an:Option Addr) (cdv ct:Value) (us:List Value),us.length=ps.length→bindArgs (PySem.W.fnOf x x (defArgs st) (defBody st) (defScope st) .none kV doc pm an cdv ct) ⟨us,[]⟩=pure (ps.zip us))
  (len:∀ xs S P,T xs S P→xs.length=ps.length)
  (hbody:∀ (f:Addr) (cdv:Value) (A:Around) (outer:List Env) (s:Shared) (H:Hp) (E:XK),Room k (A.deeper (envOfC x (defScope st) s.heap.objs.size f cdv)) →
   ∃ u,PSs (cxOf CX0 P w K mg base N x (defScope st) f cdv A outer s H E).nox (defBody st) (liftS K u)∧∀ B ss S P,T (ss.map Sl.ag) S P→(∀ a c,Sl.peek a c∉ss)→u (endsG ss P) (entryG B N ss S)):Kn P w K mg base (k+1) x (spG K T):=by
 obtain⟨f,fd,F,hm⟩:=D.ex
 exact⟨f,fd,ps,F.okG S len (hbody f),F.binds bd,F.kp,hm⟩
end
end L2
namespace L2
open PySem PySem.Spec PyProof.Rows
inductive AR where
 | v (x:PV) | n (i:Nat)
abbrev UAG:=AS→(List AR→AS→Prop)→Prop
def uGnil:UAG:=fun A Q=>Q [] A
def uGv (ue:UE) (ua:UAG):UAG:=fun A Q=>ue A fun x A1=>ua A1 fun xs A2=>Q (.v x::xs) A2
def ownK (s:Option (Option Sl)) (k:OC→Prop):Prop:=match s with
 | some (some (.own _ c))=>k c
 | _=>False
def uGn (i:Nat) (ua:UAG):UAG:=fun A Q=>ownK A.rho[i]? fun _=>ua A fun xs A1=>Q (.n i::xs) A1
inductive ARs (K:PySem.W.Frag) (A:AS) (H:Hp) (σ:St):List AR→List V→Prop where
 | nil:ARs K A H σ [] []
 | v {x:PV}{v:V}{rs:List AR}{vs:List V}:RV K (AN A) H x v→ARs K A H σ rs vs→ARs K A H σ (.v x::rs) (v::vs)
 | n {i:Nat}{v:V}{rs:List AR}{vs:List V}:σ[i]?=some (some v)→ARs K A H σ rs vs→ARs K A H σ (.n i::rs) (v::vs)
def liftAG (K:PySem.W.Frag) (u:UAG):TA:=fun σ H Q=>∃ A P,Rep K H σ A∧u A P∧∀ rs A1 vs H1,P rs A1→Rep K H1 σ A1→Stp A H A1 H1→ARs K A1 H1 σ rs vs→Q vs H1
def AR.nm:AR→Option Nat
 | .v _=>none
 | .n i=>some i
def argG (rho:List (Option Sl)):List AR→(List Ag→Prop)→Prop
 | [],k=>k []
 | .v x::rs,k=>argG rho rs fun as=>k (.v x::as)
 | .n i::rs,k=>match rho[i]? with
  | some (some (.own _ c))=>argG rho rs fun as=>k (.o c::as)
  | _=>False
def reown (rho:List (Option Sl)) (i:Nat) (c:OC):List (Option Sl):=match rho[i]? with
 | some (some (.own a _))=>rho.set i (some (.own a c))
 | _=>rho
def putR:List AR→List OC→List (Option Sl)→List (Option Sl)
 | .n i::rs,c::cs,rho=>putR rs cs (reown rho i c)
 | .v _::rs,cs,rho=>putR rs cs rho
 | _,_,rho=>rho
def callG (T:GT) (ws:Bool) (rs:List AR) (Q:PV→AS→Prop) (A:AS):Prop:=(rs.filterMap AR.nm).Nodup∧argG A.rho rs fun as=>T as (if ws=true then A.S else none) fun r cs S'=>Q r ⟨A.B,putR rs cs A.rho,if ws=true then S' else A.S⟩
def uCallG (T:GT) (ws:Bool) (ua:UAG):UE:=fun A Q=>ua A fun rs A1=>callG T ws rs Q A1
section
variable {B:Addr→Prop}{rho:List (Option Sl)}{S:Option SSt}{ue:UE}{ua:UAG}{QG:List AR→AS→Prop}{T:GT}{ws:Bool}{rs:List AR}{Q:PV→AS→Prop}{i:Nat}{k:List Ag→Prop}{x:PV}{a:Addr}{c c':OC}{cs:List OC}
theorem uGnil_c:uGnil ⟨B,rho,S⟩ QG=QG [] ⟨B,rho,S⟩:=rfl
theorem uGv_c:uGv ue ua ⟨B,rho,S⟩ QG=ue ⟨B,rho,S⟩ fun x A1=>ua A1 fun xs A2=>QG (.v x::xs) A2:=rfl
theorem uGn_c:uGn i ua ⟨B,rho,S⟩ QG=ownK rho[i]? fun _=>ua ⟨B,rho,S⟩ fun xs A1=>QG (.n i::xs) A1:=rfl
theorem uCallG_c:uCallG T ws ua ⟨B,rho,S⟩ Q=ua ⟨B,rho,S⟩ fun rs A1=>callG T ws rs Q A1:=rfl
theorem callG_t:callG T true rs Q ⟨B,rho,S⟩=((rs.filterMap AR.nm).Nodup∧argG rho rs fun as=>T as S fun r cs S'=>Q r ⟨B,putR rs cs rho,S'⟩):=rfl
theorem callG_f:callG T false rs Q ⟨B,rho,S⟩=((rs.filterMap AR.nm).Nodup∧argG rho rs fun as=>T as none fun r cs S'=>Q r ⟨B,putR rs cs rho,S⟩):=rfl
theorem nm_v:(AR.v x::rs).filterMap AR.nm=rs.filterMap AR.nm:=rfl
theorem nm_n:(AR.n i::rs).filterMap AR.nm=i::rs.filterMap AR.nm:=rfl
theorem nm_0:([]:List AR).filterMap AR.nm=[]:=rfl
theorem argG_0:argG rho [] k=k []:=rfl
theorem argG_v:argG rho (.v x::rs) k=argG rho rs fun as=>k (.v x::as):=rfl
theorem ownK_o {k:OC→Prop}:ownK (some (some (.own a c))) k=k c:=rfl
theorem argG_n:argG rho (.n i::rs) k=ownK rho[i]? fun c=>argG rho rs fun as=>k (.o c::as):=rfl
def reK (rho:List (Option Sl)) (i:Nat) (c:OC) (s:Option (Option Sl)):List (Option Sl):=match s with
 | some (some (.own a _))=>rho.set i (some (.own a c))
 | _=>rho
theorem putR_n:putR (.n i::rs) (c::cs) rho=putR rs cs (reK rho i c rho[i]?):=rfl
theorem reK_o:reK rho i c (some (some (.own a c')))=rho.set i (some (.own a c)):=rfl
theorem putR_v:putR (.v x::rs) cs rho=putR rs cs rho:=by cases cs<;>rfl
theorem putR_0:putR [] cs rho=rho:=by cases cs<;>rfl
end
section
variable {X:Cx}{K:PySem.W.Frag}{k:Nat}{x:Str}{p pos:Pos}{e:Expr}{es:List Expr}{ue:UE}{ua:UAG}{T:GT}{ws:Bool}
theorem ownK_ex {s:Option (Option Sl)}{k:OC→Prop} (h:ownK s k):∃ a c,s=some (some (.own a c))∧k c:=by
 unfold ownK at h
 split at h
 ·exact⟨_,_,rfl,h⟩
 ·exact h.elim
theorem agn:PA X [] (liftAG K uGnil):=pa_nil.mono fun σ H Q ⟨A,P,R,h,c⟩=>c [] A [] H h R (Stp.refl A H) .nil
theorem agv (h1:PE X e (liftV K ue)) (h2:PA X es (liftAG K ua)) (hs:starEach (e::es) X.env=(false,eval e X.env)::starEach es X.env:=by rfl):PA X (e::es) (liftAG K (uGv ue ua)):=
 (zad h1 h2 hs).mono fun σ H Q ⟨A,P,R,h,c⟩=>⟨A,_,R,h,fun x A1 v H1 p1 R1 S1 r1=>⟨A1,_,R1,p1,fun xs A2 vs H2 p2 R2 S2 r2=>
  c (.v x::xs) A2 (v::vs) H2 p2 R2 (S1.trans S2) (.v (r1.imp (R1.keep S2)) r2)⟩⟩
theorem agm (i:Nat) (h2:PA X es (liftAG K ua)) (hN:X.N[i]?=some x:=by rfl) (hv:Vis X.env.scope x:=by first | exact Or.inl rfl | exact Or.inr (Or.inl rfl) | exact Or.inr (Or.inr rfl)) (hd:(x==("__debug__":Str))=false:=by decide) (hcd:(x==("__classdict__":Str))=false:=by decide) (hs:starEach (.Name x p::es) X.env=(false,eval (.Name x p) X.env)::starEach es X.env:=by rfl):PA X (.Name x p::es) (liftAG K (uGn i ua)):=
 (zad (zat (i:=i) hN hv hd hcd) h2 hs).mono fun σ H Q ⟨A,P,R,h,c⟩=>by
  obtain⟨a,oc,e,h⟩:=ownK_ex h
  obtain⟨v,ev,_⟩:=R.sl i _ e
  exact⟨v,ev,A,_,R,h,fun xs A1 vs H1 p1 R1 S1 r1=>c (.n i::xs) A1 (v::vs) H1 p1 R1 S1 (.n ev r1)⟩
inductive ArS (rho:List (Option Sl)):List AR→List Sl→Prop where
 | nil:ArS rho [] []
 | v {x:PV}{rs:List AR}{ss:List Sl}:ArS rho rs ss→ArS rho (.v x::rs) (.val x::ss)
 | n {i:Nat}{a:Addr}{c:OC}{rs:List AR}{ss:List Sl}:rho[i]?=some (some (.own a c))→ArS rho rs ss→ArS rho (.n i::rs) (.own a c::ss)
theorem zfs:∀ {rs:List AR}{rho:List (Option Sl)}{k:List Ag→Prop},argG rho rs k→∃ ss,ArS rho rs ss∧k (ss.map Sl.ag)
 | [],rho,k,h=>⟨[],.nil,h⟩
 | .v x::rs,rho,k,h=>by
  obtain⟨ss,h1,h2⟩:=zfs (rs:=rs) h
  exact⟨.val x::ss,.v h1,h2⟩
 | .n i::rs,rho,k,h=>by
  unfold argG at h
  split at h
  ·rename_i a c e
   obtain⟨ss,h1,h2⟩:=zfs h
   exact⟨.own a c::ss,.n e h1,h2⟩
  ·exact h.elim
theorem ArS.at {rho:List (Option Sl)}{rs:List AR}{ss:List Sl} (h:ArS rho rs ss){j:Nat}{s:Sl} (e:ss[j]?=some s):(∃ x,s=.val x∧rs[j]?=some (.v x))∨∃ i a c,s=.own a c∧rs[j]?=some (.n i)∧rho[i]?=some (some (.own a c)):=by
 induction h generalizing j with
 | nil=>simp at e
 | v h ih=>
  cases j with
  | zero=>simp at e;exact .inl ⟨_,e.symm,rfl⟩
  | succ j=>simpa using ih (by simpa using e)
 | n q h ih=>
  cases j with
  | zero=>simp at e;exact .inr ⟨_,_,_,e.symm,rfl,q⟩
  | succ j=>simpa using ih (by simpa using e)
theorem ArS.to {rho:List (Option Sl)}{rs:List AR}{ss:List Sl} (h:ArS rho rs ss){j i:Nat} (e:rs[j]?=some (.n i)):∃ a c,ss[j]?=some (.own a c)∧rho[i]?=some (some (.own a c)):=by
 induction h generalizing j with
 | nil=>simp at e
 | v h ih=>
  cases j with
  | zero=>simp at e
  | succ j=>simpa using ih (by simpa using e)
 | n q h ih=>
  cases j with
  | zero=>simp at e;subst e;exact⟨_,_,rfl,q⟩
  | succ j=>simpa using ih (by simpa using e)
theorem ARs.at {A:AS}{H:Hp}{σ:St}{rs:List AR}{vs:List V} (h:ARs K A H σ rs vs):rs.length=vs.length∧(∀ (j:Nat) (x:PV),rs[j]?=some (.v x)→∃ v,vs[j]?=some v∧RV K (AN A) H x v)∧∀ (j i:Nat),rs[j]?=some (.n i)→∃ v,vs[j]?=some v∧σ[i]?=some (some v):=by
 induction h with
 | nil=>exact⟨rfl,fun j x e=>by simp at e,fun j x e=>by simp at e⟩
 | v r _ ih=>
  refine⟨by simp [ih.1],fun j y e=>?_,fun j i e=>?_⟩
  ·cases j with
   | zero=>simp at e;subst e;exact⟨_,rfl,r⟩
   | succ j=>simpa using ih.2.1 j y (by simpa using e)
  ·cases j with
   | zero=>simp at e
   | succ j=>simpa using ih.2.2 j i (by simpa using e)
 | n r _ ih=>
  refine⟨by simp [ih.1],fun j y e=>?_,fun j i e=>?_⟩
  ·cases j with
   | zero=>simp at e
   | succ j=>simpa using ih.2.1 j y (by simpa using e)
  ·cases j with
   | zero=>simp at e;subst e;exact⟨_,rfl,r⟩
   | succ j=>simpa using ih.2.2 j i (by simpa using e)
theorem ArS.len {rho:List (Option Sl)}{rs:List AR}{ss:List Sl} (h:ArS rho rs ss):rs.length=ss.length:=by
 induction h with
 | nil=>rfl
 | v _ ih=>simp [ih]
 | n _ _ ih=>simp [ih]
theorem nm_mem {rs:List AR}{j i:Nat} (e:rs[j]?=some (.n i)):i∈rs.filterMap AR.nm:=List.mem_filterMap.mpr ⟨_,List.mem_of_getElem? e,rfl⟩
theorem nm_nd:∀ {rs:List AR},(rs.filterMap AR.nm).Nodup→∀ {j k i:Nat},rs[j]?=some (.n i)→rs[k]?=some (.n i)→j=k
 | [],_,j,k,i,e,_=>by simp at e
 | .v x::rs,nd,j,k,i,e1,e2=>by
  cases j with
  | zero=>simp at e1
  | succ j=>
   cases k with
   | zero=>simp at e2
   | succ k=>exact congrArg (·+1) (nm_nd (rs:=rs) nd (i:=i) (by simpa using e1) (by simpa using e2))
 | .n x::rs,nd,j,k,i,e1,e2=>by
  have nd':=List.nodup_cons.mp (show(x::rs.filterMap AR.nm).Nodup from nd)
  cases j with
  | zero=>
   simp at e1
   subst e1
   cases k with
   | zero=>rfl
   | succ k=>exact absurd (nm_mem (by simpa using e2)) nd'.1
  | succ j=>
   cases k with
   | zero=>
    simp at e2
    subst e2
    exact absurd (nm_mem (by simpa using e1)) nd'.1
   | succ k=>exact congrArg (·+1) (nm_nd (rs:=rs) nd'.2 (i:=i) (by simpa using e1) (by simpa using e2))
theorem zeS:∀ {rs:List AR}{ss ss':List Sl}{cs:List OC}{rho:List (Option Sl)},(rs.filterMap AR.nm).Nodup→ArS rho rs ss→Ot ss cs ss'→(putR rs cs rho).length=rho.length∧(∀ (j i:Nat) (a:Addr) (c:OC),rs[j]?=some (.n i)→ss'[j]?=some (.own a c)→(putR rs cs rho)[i]?=some (some (.own a c)))∧∀ i:Nat,i∉rs.filterMap AR.nm→(putR rs cs rho)[i]?=rho[i]?
 | [],_,_,[],rho,_,.nil,.nil=>⟨by rw[putR_0],fun j i a c e=>by simp at e,fun i _=>by rw[putR_0]⟩
 | [],_,_,_::_,rho,_,.nil,h=>by cases h
 | .n _::_,_,_,[],rho,_,.n _ _,h=>by cases h
 | .v x::rs,_,_,cs,rho,nd,.v h,.v o=>by
  rw[putR_v]
  obtain⟨h1,h2,h3⟩:=zeS (rs:=rs) nd h o
  refine⟨h1,fun j i a c e1 e2=>?_,h3⟩
  cases j with
  | zero=>simp at e1
  | succ j=>exact h2 j i a c (by simpa using e1) (by simpa using e2)
 | .n x::rs,_,_,c'::cs,rho,nd,.n (a:=b) (c:=c) (ss:=ss) q h,.o o=>by
  have nd':=List.nodup_cons.mp (show(x::rs.filterMap AR.nm).Nodup from nd)
  rw[putR_n,q,reK_o]
  have h':ArS (rho.set x (some (.own b c'))) rs ss:=by
   have:∀ {rs:List AR}{ss:List Sl},x∉rs.filterMap AR.nm→ArS rho rs ss→ArS (rho.set x (some (.own b c'))) rs ss:=fun n h=>by
    induction h with
    | nil=>exact .nil
    | v _ ih=>exact .v (ih n)
    | @n i _ _ rs _ q _ ih=>
     have n':x∉i::rs.filterMap AR.nm:=n
     exact .n (by rw[List.getElem?_set_ne (fun z=>n' (by rw[z];simp))];exact q) (ih fun z=>n' (by simp [z]))
   exact this nd'.1 h
  obtain⟨h1,h2,h3⟩:=zeS (rs:=rs) nd'.2 h' o
  have hx:x<rho.length:=(List.getElem?_eq_some_iff.mp q).1
  refine⟨by rw[h1,List.length_set],fun j i a d e1 e2=>?_,fun i hi=>?_⟩
  ·cases j with
   | zero=>
    simp at e1 e2
    subst e1
    rw[h3 x nd'.1,List.getElem?_set_self hx,e2.1,e2.2]
   | succ j=>exact h2 j i a d (by simpa using e1) (by simpa using e2)
  ·have hi':i∉x::rs.filterMap AR.nm:=hi
   rw[h3 i fun z=>hi' (by simp [z]),List.getElem?_set_ne fun z=>hi' (by simp [z])]
theorem back_rep {A1:AS}{H1 H':Hp}{σ:St}{B':Addr→Prop}{vs:List V}{rs:List AR}{ss ss':List Sl}{cs:List OC}{S0 S' S2:Option SSt} (R1:Rep K H1 σ A1) (nd:(rs.filterMap AR.nm).Nodup) (ar:ArS A1.rho rs ss) (ot:Ot ss cs ss')
  (eB:B'=fun a=>AN A1 a∧¬ Own (ss.map some) a) (R':Rep K H' (vs.map some) (AG B' ss' S')) (S1:Stp (AG B' ss S0) H1 (AG B' ss' S') H') (hS:(S0=A1.S∧S2=S')∨(S0=none∧S2=A1.S)) :
  Rep K H' σ ⟨A1.B,putR rs cs A1.rho,S2⟩∧Stp A1 H1 ⟨A1.B,putR rs cs A1.rho,S2⟩ H'∧AN (AG B' ss' S')=AN ⟨A1.B,putR rs cs A1.rho,S2⟩:=by
 obtain⟨p1,p2,p3⟩:=zeS nd ar ot
 have own1:∀ a,Own (ss.map some) a→Own A1.rho a:=fun a ⟨j,c,e⟩=>by
  rcases ar.at (mp_at.mp e) with ⟨x,z,_⟩ | ⟨i,b,c',z,_,q⟩
  ·cases z
  ·cases z;exact⟨i,_,q⟩
 /- a slot behind: handed on,or as it was -/
 have slt:∀ (j:Nat) (s:Sl),(putR rs cs A1.rho)[j]?=some (some s)→(∃ (k:Nat) (a:Addr) (c c':OC),rs[k]?=some (.n j)∧s=.own a c'∧ss'[k]?=some (.own a c')∧A1.rho[j]?=some (some (.own a c)))∨(A1.rho[j]?=some (some s)∧∀ a c,s=.own a c→¬ Own (ss.map some) a):=fun j s e=>by
  by_cases hj:j∈rs.filterMap AR.nm
  ·obtain⟨r,hr,er⟩:=List.mem_filterMap.mp hj
   cases r with
   | v x=>cases er
   | n i=>
    cases er
    obtain⟨k,hk⟩:=List.getElem?_of_mem hr
    obtain⟨a,c,q1,q2⟩:=ar.to hk
    obtain⟨c',q3⟩:=ot.back q1
    have q4:=p2 k j a c' hk q3
    rw[q4] at e
    cases e
    exact .inl ⟨k,a,c,c',hk,rfl,q3,q2⟩
  ·rw[p3 j hj] at e
   refine .inr ⟨e,fun a c z=>?_⟩
   subst z
   rintro⟨k,c2,q⟩
   rcases ar.at (mp_at.mp q) with ⟨x,z,_⟩ | ⟨i,b,c',z,hk,q2⟩
   ·cases z
   ·cases z
    have:=R1.nd _ _ _ _ _ e q2
    subst this
    exact hj (nm_mem hk)
 have own2:∀ a,Own (putR rs cs A1.rho) a↔Own A1.rho a:=fun a=>by
  constructor
  ·rintro⟨j,c,e⟩
   rcases slt j _ e with ⟨_,_,c0,_,_,z,_,q⟩ | ⟨q,_⟩
   ·cases z;exact⟨j,_,q⟩
   ·exact⟨j,c,q⟩
  ·rintro⟨j,c,e⟩
   by_cases hj:j∈rs.filterMap AR.nm
   ·obtain⟨r,hr,er⟩:=List.mem_filterMap.mp hj
    cases r with
    | v x=>cases er
    | n i=>
     cases er
     obtain⟨k,hk⟩:=List.getElem?_of_mem hr
     obtain⟨b,c2,q1,q2⟩:=ar.to hk
     rw[e] at q2
     cases q2
     obtain⟨c',q3⟩:=ot.back q1
     exact⟨j,c',p2 k j _ c' hk q3⟩
   ·exact⟨j,c,by rw[p3 j hj];exact e⟩
 have an:AN (AG B' ss' S')=AN A1:=funext fun a=>propext ⟨fun h=>h.elim (fun z=>by subst eB;exact z.1) fun z=>.inr (own1 a (ot.own.mp z)),fun h=>by
  by_cases z:Own (ss.map some) a
  ·exact .inr (ot.own.mpr z)
  ·exact .inl (by subst eB;exact⟨h,z⟩)⟩
 have an2:AN ⟨A1.B,putR rs cs A1.rho,S2⟩=AN A1:=funext fun a=>propext ⟨fun h=>h.imp id (own2 a).mp,fun h=>h.imp id (own2 a).mpr⟩
 have sd2:S2.map SSt.d=A1.S.map SSt.d:=by
  rcases hS with ⟨e1,e2⟩ | ⟨_,e2⟩
  ·rw[e2,← e1];exact S1.sd
  ·rw[e2]
 have mt:∀ a,Mt (AG B' ss S0) a→Mt A1 a:=fun a h=>h.elim (fun z=>.inl (own1 a z)) fun⟨st,z,e⟩=>by
  rcases hS with ⟨e1,_⟩ | ⟨e1,_⟩
  ·exact .inr ⟨st,by rw[← e1];exact z,e⟩
  ·have z':S0=some st:=z
   rw[e1] at z';cases z'
 have St:Stp A1 H1 ⟨A1.B,putR rs cs A1.rho,S2⟩ H':=⟨fun a o h m=>S1.fr a o h fun z=>m (mt a z),fun a h=>.inl ((own2 a).mp h),rfl,S1.dm,sd2⟩
 have kp:=R1.keep St
 have nown:∀ a,A1.B a→¬ Own (ss.map some) a:=fun a h z=>by
  obtain⟨j,c,e⟩:=own1 a z
  obtain⟨_,_,_,nb,_⟩:=R1.sl j _ e
  exact nb h
 have ns0:∀ a,¬ A1.B a→¬ ∃ st,S0=some st∧st.d=a:=fun a h ⟨st,z,e⟩=>by
  rcases hS with ⟨e1,_⟩ | ⟨e1,_⟩
  ·exact h (by rw[← e];exact(R1.st st (by rw[← e1];exact z)).1)
  ·rw[e1] at z;cases z
 refine⟨⟨by rw[R1.len];exact p1.symm,fun j s e=>?_,fun a h=>S1.dm a (R1.dom a h),fun i j a c c' e1 e2=>?_,fun st h=>?_,fun i a c st e1 e2=>?_⟩,St,an.trans an2.symm⟩
 ·rcases slt j s e with ⟨k,a,c,c',hk,rfl,q1,q2⟩ | ⟨q,n⟩
  ·obtain⟨v,ev,rfl,nb,_⟩:=R1.sl j _ q2
   obtain⟨_,_,_,_,oc⟩:=R'.sl k _ (mp_at.mpr q1)
   refine⟨_,ev,rfl,nb,?_⟩
   rw[an2,← an]
   exact oc
  ·obtain⟨v,ev,qq⟩:=R1.sl j s q
   refine⟨v,ev,?_⟩
   cases s with
   | val x=>exact qq.imp kp
   | own a c=>exact⟨qq.1,qq.2.1,qq.2.2.imp kp fun o h=>S1.fr a o h fun m=>m.elim (n a c rfl) (ns0 a qq.2.1)⟩
   | peek a c=>exact⟨qq.1,qq.2.1,qq.2.2.imp kp fun o h=>S1.fr a o h fun m=>m.elim (nown a qq.2.1) fun⟨st,z,e⟩=>by
     rcases hS with ⟨e1,_⟩ | ⟨e1,_⟩
     ·exact R1.pk j a c st q (by rw[← e1];exact z) e.symm
     ·have z':S0=some st:=z
      rw[e1] at z';cases z'⟩
 ·have w1:∃ d,A1.rho[i]?=some (some (.own a d)):=by
   rcases slt i _ e1 with ⟨_,_,c0,_,_,z,_,q⟩ | ⟨q,_⟩
   ·cases z;exact⟨_,q⟩
   ·exact⟨_,q⟩
  have w2:∃ d,A1.rho[j]?=some (some (.own a d)):=by
   rcases slt j _ e2 with ⟨_,_,c0,_,_,z,_,q⟩ | ⟨q,_⟩
   ·cases z;exact⟨_,q⟩
   ·exact⟨_,q⟩
  obtain⟨_,w1⟩:=w1
  obtain⟨_,w2⟩:=w2
  exact R1.nd _ _ _ _ _ w1 w2
 ·rcases hS with ⟨e1,e2⟩ | ⟨e1,e2⟩
  ·obtain⟨st0,z1,z2⟩:=sd_d sd2 ⟨st,h,rfl⟩
   have h':S2=some st:=h
   obtain⟨h1,h2⟩:=R'.st st (by show S'=_;rw[← e2];exact h')
   exact⟨by show A1.B st.d;rw[← z2];exact(R1.st st0 z1).1,h2⟩
  ·have h':A1.S=some st:=by rw[← e2];exact h
   obtain⟨h1,h2,h3⟩:=R1.st st h'
   have frm:∀ b o,H1 b=some o→¬ Own (ss.map some) b→H' b=some o:=fun b o q n=>S1.fr b o q fun m=>m.elim n fun⟨st,z,_⟩=>by
    have z':S0=some st:=z
    rw[e1] at z';cases z'
   have nk:∀ b o,H1 b=some o→(∀ vs,o≠.lst vs)→(∀ vs,o≠.dK vs)→(∀ C dx vs,o≠.ins C dx vs)→¬ Own (ss.map some) b:=fun b o q n1 n2 n3 z=>by
    rcases R1.own_at (own1 b z) with ⟨y,q2⟩ | ⟨y,q2⟩ | ⟨_,_,y,q2⟩<;>(rw[q2] at q;cases q)
    ·exact n1 _ rfl
    ·exact n2 _ rfl
    ·exact n3 _ _ _ rfl
   obtain⟨t,l,w,e,r⟩:=h2.ex
   refine⟨h1,⟨⟨t,l,w,frm _ _ e (nown _ h1),r⟩,fun T o z=>⟨frm _ _ (h2.tb T o z).1 (nk _ _ (h2.tb T o z).1 (fun _ z=>nomatch z) (fun _ z=>nomatch z) (fun _ _ _ z=>nomatch z)),(h2.tb T o z).2⟩⟩,?_⟩
   exact h3.keepF fun o u h3=>frm _ _ h3 (nk _ _ h3 (fun _ z=>nomatch z) (fun _ z=>nomatch z) (fun _ _ _ z=>nomatch z))
 ·have e1':A1.rho[i]?=some (some (.peek a c)):=by
   rcases slt i _ e1 with ⟨_,_,c0,_,_,z,_,q⟩ | ⟨q,_⟩
   ·cases z
   ·exact q
  obtain⟨st0,z1,z2⟩:=sd_d sd2 ⟨st,e2,rfl⟩
  rw[← z2]
  exact R1.pk i a c st0 e1' z1
theorem fore_rep {A1:AS}{H1:Hp}{σ:St}{vs:List V}{rs:List AR}{ss:List Sl} (R1:Rep K H1 σ A1) (nd:(rs.filterMap AR.nm).Nodup) (ar:ArS A1.rho rs ss) (av:ARs K A1 H1 σ rs vs) (ws:Bool) :
  Rep K H1 (vs.map some) (AG (fun a=>AN A1 a∧¬ Own (ss.map some) a) ss (if ws=true then A1.S else none)):=by
 have own1:∀ a,Own (ss.map some) a→Own A1.rho a:=fun a ⟨j,c,e⟩=>by
  rcases ar.at (mp_at.mp e) with ⟨x,z,_⟩ | ⟨i,b,c',z,_,q⟩
  ·cases z
  ·cases z;exact⟨i,_,q⟩
 have an:AN (AG (fun a=>AN A1 a∧¬ Own (ss.map some) a) ss (if ws=true then A1.S else none))=AN A1:=funext fun a=>propext ⟨fun h=>h.elim (fun z=>z.1) fun z=>.inr (own1 a z),fun h=>by
  by_cases z:Own (ss.map some) a
  ·exact .inr z
  ·exact .inl ⟨h,z⟩⟩
 obtain⟨a1,a2,a3⟩:=av.at
 refine⟨by rw[List.length_map,List.length_map,← a1,ar.len],fun j s e=>?_,fun a h=>R1.dom' a h.1,fun i j a c c' e1 e2=>?_,fun st h=>?_,fun i a c st e1 e2=>?_⟩
 ·rcases ar.at (mp_at.mp e) with ⟨x,rfl,q⟩ | ⟨i,a,c,rfl,q,q2⟩
  ·obtain⟨v,ev,rv⟩:=a2 j x q
   refine⟨v,by rw[List.getElem?_map,ev];rfl,?_⟩
   show RV K (AN _) H1 x v
   rw[an]
   exact rv
  ·obtain⟨v,ev,es⟩:=a3 j i q
   obtain⟨v',ev',rfl,nb,oc⟩:=R1.sl i _ q2
   rw[es] at ev'
   cases ev'
   refine⟨_,by rw[List.getElem?_map,ev];rfl,rfl,fun z=>z.2 ⟨j,c,e⟩,?_⟩
   rw[an]
   exact oc
 ·rcases ar.at (mp_at.mp e1) with ⟨x,z,_⟩ | ⟨i1,b1,c1,z,k1,q1⟩
  ·cases z
  ·cases z
   rcases ar.at (mp_at.mp e2) with ⟨x,z,_⟩ | ⟨i2,b2,c2,z,k2,q2⟩
   ·cases z
   ·cases z
    have:=R1.nd _ _ _ _ _ q1 q2
    subst this
    exact nm_nd nd k1 k2
 ·cases ws with
  | false=>cases h
  | true=>
   have h':A1.S=some st:=h
   obtain⟨h1,h2,h3⟩:=R1.st st h'
   refine⟨⟨.inl h1,fun z=>?_⟩,h2,h3⟩
   obtain⟨j,c,e⟩:=own1 _ z
   obtain⟨_,_,_,nb,_⟩:=R1.sl j _ e
   exact nb h1
 ·rcases ar.at (mp_at.mp e1) with ⟨x,z,_⟩ | ⟨_,_,_,z,_,_⟩<;>cases z
theorem zdT (ws:Bool) (hK:X.K=K) (F:Kn X.prog X.w X.K X.mg X.base k x (spG K T)) (hr:Room k X.A) (ha:PA X (e::es) (liftAG K ua)) (hg:Gl X x:=by rfl) (hdb:(x==("__debug__":Str))=false:=by decide) (he:starEach (e::es) X.env=(false,eval e X.env)::starEach es X.env:=by rfl) (hpl:(backTo pos (starEach es X.env)).any (·.1)=false:=by rfl) :
  PE X (.Call (.Name x p) (e::es) [] pos) (liftV K (uCallG T ws ua)):=by
 obtain⟨f,fd,ps,F1,b,kp,hm⟩:=F.ex
 refine(zaZ F1 hr hg hm kp b .nil zbO ha hdb he hpl).mono fun σ H Q ⟨A,P,R,h,c⟩=>⟨A,_,R,h,fun rs A1 vs H1 p R1 S1 av=>?_⟩
 obtain⟨nd,ag⟩:=p
 obtain⟨ss,ar,t⟩:=zfs ag
 rw[List.append_nil]
 refine⟨_,ss,_,_,fun a c z=>?_,fore_rep R1 nd ar av ws,t,fun r cs ss' S' v H' q ot R' S2 rv=>?_⟩
 ·obtain⟨j,hj⟩:=List.getElem?_of_mem z
  rcases ar.at hj with ⟨x,z,_⟩ | ⟨_,_,_,z,_,_⟩<;>cases z
 ·obtain⟨R3,S3,an⟩:=back_rep (S2:=if ws=true then S' else A1.S) R1 nd ar ot rfl R' S2 (by cases ws with | true=>exact .inl ⟨rfl,rfl⟩ | false=>exact .inr ⟨rfl,rfl⟩)
  exact c r _ v H' q R3 (S1.trans S3) (by rw[← an];exact rv)
end
end L2
namespace L2
open PySem PySem.Spec PyProof.Rows
section
variable {X:Cx}{K:PySem.W.Frag}{k:Nat}{x m f:Str}{pn pos apos:Pos}{T:MT}{C:Addr}
theorem e_meth0 {pl:Sem Bool} (hK:X.K=K) (i:Nat) (c:Cls K C) (F:KnM X.prog X.w X.K X.mg X.base k C m (spM K C false T)) (hr:Room k X.A) (hN:X.N[i]?=some x:=by rfl) (hv:Vis X.env.scope x:=by first | exact Or.inl rfl | exact Or.inr (Or.inl rfl) | exact Or.inr (Or.inr rfl)) (hd:(x==("__debug__":Str))=false:=by decide) (hcd:(x==("__classdict__":Str))=false:=by decide)
  (ht:eval (.Call (.Attribute (.Name x pn) m apos) [] [] pos) X.env=(do
   let ov ← eval (.Name x pn) X.env
   standAt apos.atName
   let (f,first) ← holding [ov] (getMethod ov m pl)
   callWith pos f first (backTo pos (starEach [] X.env)) (backToKw pos (keywordEach [] X.env))):=by rfl) :
  PE X (.Call (.Attribute (.Name x pn) m apos) [] [] pos) (liftV K (uMeth C i m T uNil)):=by
 obtain⟨f,fd,ps,F1,b,hm⟩:=F.ex
 refine(zfC (pl:=pl) (zat (i:=i) hN hv hd hcd) (hK▸c) hm F1 hr b .nil zbO ht).mono fun σ H Q ⟨A,P,R,h,c⟩=>?_
 obtain⟨p,dx,fs,hi,hl,q⟩:=zaI h
 obtain⟨v,ev,rfl,_,ws,h1,h2⟩:=R.sl i _ hi
 refine⟨_,ev,p,dx,ws,rfl,h1,zbr h2.1 m hl,?_⟩
 obtain⟨p',dx',fs1,hi1,rfl,rfl,t⟩:=zaI (show methK T p C dx i [] P A from q)
 show spM K C false T [.ref p'] H Q E0
 refine zfx R hi1 .nil t fun r fs' v H' q po=>?_
 obtain⟨ws',bt,h3,h4,rv⟩:=po
 obtain⟨R2,S2⟩:=R.turnC hi1 (c':=.ins C dx' fs') bt ⟨ws',h3,h4⟩
 exact c r _ v H' q R2 S2 (rv.imp (zft hi1))
end
theorem ag_v {ss:List Sl}{x:PV}{as:List Ag} (e:ss.map Sl.ag=.v x::as) (np:∀ a c,Sl.peek a c∉ss):∃ ss',ss=.val x::ss'∧ss'.map Sl.ag=as∧∀ a c,Sl.peek a c∉ss':=by
 cases ss with
 | nil=>cases e
 | cons s ss=>
  cases s with
  | val y=>simp [Sl.ag] at e;exact⟨ss,by rw[e.1],e.2,fun a c z=>np a c (by simp [z])⟩
  | own a c=>simp [Sl.ag] at e
  | peek a c=>simp [Sl.ag] at e
theorem ag_o {ss:List Sl}{c:OC}{as:List Ag} (e:ss.map Sl.ag=.o c::as) (np:∀ a c,Sl.peek a c∉ss):∃ a ss',ss=.own a c::ss'∧ss'.map Sl.ag=as∧∀ a c,Sl.peek a c∉ss':=by
 cases ss with
 | nil=>cases e
 | cons s ss=>
  cases s with
  | val y=>simp [Sl.ag] at e
  | own a c=>simp [Sl.ag] at e;exact⟨a,ss,by rw[e.1],e.2,fun a c z=>np a c (by simp [z])⟩
  | peek a c=>exact absurd (by simp) (np a c)
theorem ag_0 {ss:List Sl} (e:ss.map Sl.ag=[]):ss=[]:=List.map_eq_nil_iff.mp e
theorem endsG_nx {ss:List Sl}{P:PV→List OC→Option SSt→Prop}{A:AS}:(endsG ss P).nx A=outP ss P .non A:=rfl
theorem endsG_rt {ss:List Sl}{P:PV→List OC→Option SSt→Prop}{A:AS}{r:PV}:(endsG ss P).rt r A=outP ss P r A:=rfl
end L2
namespace L2
open PySem PySem.Spec PyProof.Rows PySem.W
abbrev Cx.tryC (X:Cx) (pins:List (Addr×Obj)) (E:XK):Cx:={ X with pn:=X.pn++pins,xe:=fun ev s'=>∃ σ' H1 s1,Inv X pins σ' H1 s1∧CXe X.prog X.w X.stack H1 s1 E ev s' }
section
variable {X:Cx}{pins pins2:List (Addr×Obj)}{σ:St}{H:Hp}{s:Shared}{E:XK}
theorem Inv.tryC (I:Inv X pins σ H s) (E:XK):Inv (X.tryC pins E) [] σ H s:=
 ⟨⟨I.ok.mod,I.ok.kind,I.ok.glob,I.ok.blt,I.ok.above,I.ok.inj,I.ok.has,I.ok.cab,I.ok.hd,I.ok.frames,I.ok.stk,I.ok.exf,I.ok.bs,I.ok.bsz,I.ok.noex,I.ok.exfs,I.ok.funs,I.ok.frf⟩,I.os,I.bare,I.base,I.loc,I.cell,I.free,I.freeC,fun p hp=>I.pin p (by simpa using hp),I.hok,I.len⟩
theorem Inv.untryC (I:Inv (X.tryC pins E) pins2 σ H s):Inv X pins σ H s:=
 ⟨⟨I.ok.mod,I.ok.kind,I.ok.glob,I.ok.blt,I.ok.above,I.ok.inj,I.ok.has,I.ok.cab,I.ok.hd,I.ok.frames,I.ok.stk,I.ok.exf,I.ok.bs,I.ok.bsz,I.ok.noex,I.ok.exfs,I.ok.funs,I.ok.frf⟩,I.os,I.bare,I.base,I.loc,I.cell,I.free,I.freeC,fun p hp=>I.pin p (List.mem_append_left _ hp),I.hok,I.len⟩
theorem passT:Passes (CXe X.prog X.w) (X.tryC pins E) E:=fun _ σ H s _ _ I h=>⟨σ,H,s,I.untryC,h⟩
end
section
variable {X:Cx}
theorem ps_tryB {D:Addr}{y n:Str}{i:Nat}{b₀:Stmt}{body suite:List Stmt}{np hp pos:Pos}{tb:XK→TS}{ts:TS}
  (hst:X.stack=X.env::X.outer) (hex:X.ex=[]) (hL:X.env.frame=some X.env.locals) (hb:∀ pins E,PSs (X.tryC pins E) body (tb E)) (hgy:Gl X y) (hmy:X.mg y=some (.ref D)) (nd:X.N.Nodup) (hi:X.N[i]?=some n) (hl:X.env.scope.names.lookup n=some .local) (hs:∀ a:Addr,PSs (X.suite (.ref a)) (b₀::suite) ts)
  (hdy:(y==("__debug__":Str))=false:=by decide) :
  PS X (.Try body [.ExceptHandler (some (.Name y np)) (some n) (b₀::suite) hp] [] [] pos)
   (fun Dn σ H=>tb (fun ev cl H2=>∃ a C,ev=.ref a∧cl=some C∧ExM X.K C D ∧
    (H2 a=none→∀ σ':St,σ'.length=X.N.length→ts { nx:=fun σ' H'=>Dn.nx (σ'.set i none) H',rt:=fun _ _=>False } (σ'.set i (some (.ref a))) (upd H2 a (ExO a C)))) Dn σ H):=by
 intro pins s σ H Dn I h
 rw[arm_exec_Try]
 refine wpAny_bind (wpAny_standAt (wpAny_tryStmt_except ?_))
 have h2:=hb pins _ [] s σ H Dn (I.tryC _) h
 refine wpAny_mono h2 (fun fl s1 q=>?_) fun ev s' q=>?_
 ·cases fl with
  | next=>obtain⟨σ',H',I',q⟩:=q;exact pss_nil pins s1 σ' H' Dn I'.untryC q
  | brk=>obtain⟨σ',H',I',q⟩:=q;exact⟨σ',H',I'.untryC,q⟩
  | cont=>obtain⟨σ',H',I',q⟩:=q;exact⟨σ',H',I'.untryC,q⟩
  | ret u=>obtain⟨v,σ',H',I',r,q⟩:=q;exact⟨v,σ',H',I'.untryC,r,q⟩
 ·obtain⟨σ1,H1,s1,I1,hq⟩:=q
  obtain⟨a,C,tt,H2,B,rfl,os,bare,un,hok,fl,i1,i2,i3,a',C',e1,e2,M,hts⟩:=hq
  cases e1
  cases e2
  have na:H2 a=none:=by
   cases z:H2 a with
   | none=>rfl
   | some u=>
    obtain⟨o,e3⟩:=zfF (hok a u z)
    have:=i1 a o (by rw[z];exact Option.some_ne_none _) e3
    rw[fl.2.1] at this;cases this
  have hts:=hts na σ1 I1.len
  have hfr:X.A.frames=some (X.env::X.outer):=by rw[I.ok.frames,hst]
  have fl':Heap.FlyingW B (X.env::X.outer) a (.ref C) (.ref tt) s'.heap:=by rw[← hst];exact fl
  refine wpAny_looks_onW hfr hL fl' fun h4 held4 sm4=>wpAny_landsW held4 fun h5 fl5 sm5=>?_
  have I5:Inv X pins σ1 H2 { s' with heap:=h5,toks:=s'.toks }:=come_ok I1 hst os bare un hok i1 i2 i3 fl fl5.1 (sm4.trans sm5)
  obtain⟨ob,hob,hobc⟩:=fl5.there
  refine wpAny_handleBy_cons (codeAny_handlers_test (zbT (I5.suite (.ref a)) hgy hmy ?_ hdy)) (by intro q;cases q)
  refine exm_own (s:={ s' with heap:=h5 }) I5.kIn hob hobc M ?_
  refine codeAny_handlers_suite_as ?_
  refine lands_againW fl5 fun h6 fl6 sm6=>?_
  have I6:Inv X pins σ1 H2 { s' with heap:=h6,toks:=s'.toks }:=come_ok I1 hst os bare un hok i1 i2 i3 fl fl6.1 ((sm4.trans sm5).trans sm6)
  have tr:∃ o vs,h6.get? a=some o∧o.cls=.ref C∧o.data=.fields vs:=by
   obtain⟨oe,vs,q1,q2,q3,_⟩:=fl6.first
   exact⟨oe,vs,q1,q2,q3⟩
  obtain⟨oe,vs',q1,q2,q3⟩:=tr
  have nfr:a∉frs X.stack:=fun z=>by
   rw[hst] at z
   obtain⟨_,o,ho,nf⟩:=fl6.2.2.1.mem z
   rw[q1] at ho;cases ho
   exact nf _ q3
  have nw:∀ b o,s1.heap.get? b=some o→b≠a:=fun b o e z=>by
   subst z
   obtain⟨o',q⟩:=i3 b o e nfr
   rw[fl.2.1] at q;cases q
  have I7:=track_ok (C:=C) I1 I6 hex na nw ⟨oe,q1,q2⟩
  refine zdl (X:=X.suite (.ref a)) (I7.suite (.ref a)) nd hi (.inl hl) (v:=.ref a) rfl (fun s7 I8=>?_) (.inr hl)
  refine wpAny_mono (hs a pins s7 _ _ _ I8 hts) (fun fw s8 z=>?_) fun _ _ z=>z.elim
  cases fw with
  | next=>
   obtain⟨σ',H',I9,z⟩:=z
   have I9:=I9.unsuite I.ok.hd I.ok.frames
   exact goes_ok I9 nd hi hl fun s9 I10=>⟨_,_,I10,z⟩
  | ret u=>obtain⟨_,_,_,_,_,z⟩:=z;exact z.elim
  | brk=>obtain⟨_,_,_,z⟩:=z;exact z.elim
  | cont=>obtain⟨_,_,_,z⟩:=z;exact z.elim
end
def spMX (K:PySem.W.Frag) (C:Addr) (G:List PV→List (Str×PV)→Prop) (D:Addr):Sp:=fun vs H _ E=>∃ B p dx fs ws xs us,vs=.ref p::us∧(∀ a,B a→H a≠none)∧¬ B p∧H p=some (.ins C dx ws)∧RFs K (NP B p) H fs ws∧RVs K (NP B p) H xs us∧G xs fs ∧
 ∀ e H' ws',But p H H'→H' p=some (.ins C dx ws')→RFs K (NP B p) H' fs ws'→E (.ref e) (some D) H'
structure KnMX (P:Program) (w:World) (K:PySem.W.Frag) (mg:Str→Option Value) (base:Heap) (k:Nat) (C:Addr) (m:Str) (sp:Sp):Prop where
 ex:∃ f fd ps,FnOk P w K mg base (CXe P w) k f fd ps sp∧Binds K fd ps []∧Meth K C m f
section
variable {P:Program}{w:World}{K:PySem.W.Frag}{mg:Str→Option Value}{base:Heap}
theorem Fun.okMX {x qual:Str}{st:Stmt}{f C D:Addr}{fd:FuncData}{N ps:List Str}{k:Nat}{G:List PV→List (Str×PV)→Prop} (F:Fun K x qual st f fd) (S:FnScope N ps (defScope st)) (len:∀ xs fs,G xs fs→xs.length+1=ps.length) (lN:ps.length≤N.length)
  (hbody:∀ (cdv:Value) (A:Around) (outer:List Env) (s:Shared) (H:Hp) (E:XK),Room k (A.deeper (envOfC qual (defScope st) s.heap.objs.size f cdv)) →
   ∃ t,PSs (cxOf (CXe P w) P w K mg base N qual (defScope st) f cdv A outer s H E) (defBody st) t∧∀ B p dx xs fs vs D',G xs fs→(∀ e H' ws',But p H H'→H' p=some (.ins C dx ws')→RFs K (NP B p) H' fs ws'→E (.ref e) (some D) H')→Rep K H (start N vs) (entryM B N p C dx fs xs)→t D' (start N vs) H):FnOk P w K mg base (CXe P w) (k+1) f fd ps (spMX K C G D):=by
 obtain⟨oc,od,kV,doc,pm,an,cdv,ct,osl,rfl,lk,hcd⟩:=F.ex
 refine fn_of lk hcd S (fun vs H Q E h=>?_) fun A outer s H vs Q E hr h=>?_
 ·obtain⟨B,p,dx,fs,ws,xs,us,rfl,_,_,_,_,rv,g,_⟩:=h
  rw[List.length_cons,← rv.len]
  exact len xs fs g
 ·obtain⟨B,p,dx,fs,ws,xs,us,rfl,dom,nb,hp,rf,rv,g,hE⟩:=h
  obtain⟨t,h1,h2⟩:=hbody cdv A outer s H E hr
  exact⟨t,h1,h2 B p dx xs fs _ _ g hE (zdg (N:=N) dom nb hp rf rv (by rw[len xs fs g];exact lN))⟩
theorem DfM.okMX {x qual:Str}{st:Stmt}{C D:Addr}{N ps:List Str}{k:Nat}{G:List PV→List (Str×PV)→Prop} (Df:DfM K C x qual st) (S:FnScope N ps (defScope st))
  (bd:∀ (kV doc pm:Value) (an:Option Addr) (cdv ct:Value) (us:List Value),us.length=ps.length→bindArgs (PySem.W.fnOf x qual (defArgs st) (defBody st) (defScope st) .none kV doc pm an cdv ct) ⟨us,[]⟩=pure (ps.zip us))
  (len:∀ xs fs,G xs fs→xs.length+1=ps.length) (lN:ps.length≤N.length)
  (hbody:∀ (f:Addr) (cdv:Value) (A:Around) (outer:List Env) (s:Shared) (H:Hp) (E:XK),Room k (A.deeper (envOfC qual (defScope st) s.heap.objs.size f cdv)) →
   ∃ t,PSs (cxOf (CXe P w) P w K mg base N qual (defScope st) f cdv A outer s H E) (defBody st) t∧∀ B p dx xs fs vs D',G xs fs→(∀ e H' ws',But p H H'→H' p=some (.ins C dx ws')→RFs K (NP B p) H' fs ws'→E (.ref e) (some D) H')→Rep K H (start N vs) (entryM B N p C dx fs xs)→t D' (start N vs) H):KnMX P w K mg base (k+1) C x (spMX K C G D):=by
 obtain⟨f,fd,F,hm⟩:=Df.ex
 exact⟨f,fd,ps,F.okMX S len lN (hbody f),F.binds bd,hm⟩
theorem spMX_of {A1:AS}{H1:Hp}{σ:St}{Q:VK}{E:XK}{i:Nat}{p C D dx:Addr}{G:List PV→List (Str×PV)→Prop}{fs:List (Str×PV)}{xs:List PV}{vs:List V} (R1:Rep K H1 σ A1) (hi:A1.rho[i]?=some (some (.own p (.ins C dx fs)))) (rs:RVs K (AN A1) H1 xs vs) (g:G xs fs)
  (fin:∀ e H' ws',But p H1 H'→H' p=some (.ins C dx ws')→RFs K (AN A1) H' fs ws'→E (.ref e) (some D) H'):spMX K C G D (.ref p::vs) H1 Q E:=by
 obtain⟨_,_,_,nb,ws,h1,h2⟩:=R1.sl i _ hi
 have np:NP (fun a=>AN A1 a∧a≠p) p=AN A1:=funext fun a=>propext ⟨fun h=>h.elim (fun z=>z.1) fun z=>.inr (z▸⟨i,_,hi⟩),fun h=>by
  by_cases z:a=p
  ·exact .inr z
  ·exact .inl ⟨h,z⟩⟩
 exact⟨fun a=>AN A1 a∧a≠p,p,dx,fs,ws,xs,vs,rfl,fun a h=>R1.dom' a h.1,fun h=>h.2 rfl,h1,by rw[np];exact h2,by rw[np];exact rs,g,fun e H' ws' b h3 h4=>fin e H' ws' b h3 (by rw[np] at h4;exact h4)⟩
theorem zfE {ad a:Addr}{c:OC}{rho:List (Option Sl)} (h:∀ s∈rho,∀ a c,s≠some (.own a c)):Own (some (.own ad c)::rho) a↔a=ad:=by
 constructor
 ·rintro⟨i,c',e⟩
  cases i with
  | zero=>simp at e;exact e.1.symm
  | succ i=>exact absurd rfl (h _ (List.mem_of_getElem? (by simpa using e)) a c')
 ·rintro rfl
  exact⟨0,c,rfl⟩
theorem zeN {B:Addr→Prop}{N:List Str}{p C dx:Addr}{fs fs':List (Str×PV)}{xs:List PV}{H H1:Hp}{A1:AS}{σ1:St} (R1:Rep K H1 σ1 A1) (S1:Stp (entryM B N p C dx fs xs) H A1 H1) (e:A1.rho[0]?=some (some (.own p (.ins C dx fs')))):But p H H1∧∃ ws',H1 p=some (.ins C dx ws')∧RFs K (NP B p) H1 fs' ws':=by
 have npa:∀ a,NP B p a→AN A1 a:=fun a h=>h.elim (fun z=>.inl (by rw[S1.b];exact z)) fun z=>.inr (z▸⟨0,_,e⟩)
 obtain⟨_,_,_,_,ws',h1,h2⟩:=R1.sl 0 _ e
 exact⟨fun b o h n=>S1.fr b o h fun m=>m.elim (fun z=>n (entryM_own.mp z)) fun⟨st,z,_⟩=>(by cases z),ws',h1,h2.imp ⟨fun _ _ h=>h,fun a o n q=>⟨fun z=>n (npa a z),q⟩⟩⟩
end
end L2
namespace K61
open PySem L2
inductive Vl where
 | n | i (x:Int) | s (x:Str)
 deriving DecidableEq
structure Pr where
 r:List Vl
 k:Int
 deriving DecidableEq
def Vl.pv:Vl→PV
 | .n=>.non
 | .i x=>.int x
 | .s x=>.str x
def rowP (r:List Vl):PV:=.tup (r.map Vl.pv)
def Pr.pv (p:Pr):PV:=.tup [rowP p.r,.int p.k]
def Vl.rk:Vl→PV
 | .n=>.tup [.int 0,.int 0]
 | .i x=>.tup [.int 1,.int x]
 | .s x=>.tup [.int 2,.str x]
def rkR (r:List Vl):PV:=.tup (r.map Vl.rk)
def rkP (p:Pr):PV:=.tup [rkR p.r,.int p.k]
def Vl.lt:Vl→Vl→Bool
 | .n,.n=>false
 | .n,_=>true
 | .i a,.i b=>decide (a<b)
 | .i _,.s _=>true
 | .s a,.s b=>decide (a.cps.toList<b.cps.toList)
 | _,_=>false
def rlt:List Vl→List Vl→Bool
 | x::xs,y::ys=>if x=y then rlt xs ys else x.lt y
 | [],_::_=>true
 | _,[]=>false
def plt (p q:Pr):Bool:=if p.r=q.r then decide (p.k<q.k) else rlt p.r q.r
structure Sto {α:Type} (lt:α→α→Bool):Prop where
 ir:∀ a,lt a a=false
 tr:∀ {a b c},lt a b=true→lt b c=true→lt a c=true
 ap:∀ {a b},a≠b→lt a b=true∨lt b a=true
theorem Sto.as {α:Type}{lt:α→α→Bool} (h:Sto lt){a b:α} (x:lt a b=true):lt b a=false:=by
 cases e:lt b a with
 | false=>rfl
 | true=>have:=h.tr x e;rw[h.ir] at this;cases this
theorem Sto.nl {α:Type}{lt:α→α→Bool} (h:Sto lt){a b:α} (x:lt a b=false):a=b∨lt b a=true:=by
 by_cases e:a=b
 ·exact .inl e
 ·rcases h.ap e with z | z
  ·rw[x] at z;cases z
  ·exact .inr z
theorem Sto.ne {α:Type}{lt:α→α→Bool} (h:Sto lt){a b:α} (x:lt a b=true):a≠b:=fun e=>by subst e;rw[h.ir] at x;cases x
theorem str_ext {a b:Str} (h:a.cps.toList=b.cps.toList):a=b:=by
 cases a;cases b
 exact congrArg Str.mk (Array.toList_inj.mp h)
theorem vlt:Sto Vl.lt where
 ir:=by intro a;cases a<;>simp [Vl.lt,List.lt_irrefl]
 tr:=by
  intro a b c h1 h2
  cases a<;>cases b<;>simp [Vl.lt] at h1<;>cases c<;>simp [Vl.lt] at h2 ⊢
  ·omega
  ·exact List.lt_trans h1 h2
 ap:=by
  intro a b h
  cases a<;>cases b<;>simp [Vl.lt] at h ⊢
  ·omega
  ·rename_i x y
   by_cases e:x.cps.toList<y.cps.toList
   ·exact .inl e
   ·refine .inr ?_
    rcases List.le_iff_lt_or_eq.mp (List.not_lt.mp e) with z | z
    ·exact z
    ·exact absurd (str_ext z.symm) h
theorem rlt_sto:Sto rlt where
 ir:=by
  intro a
  induction a with
  | nil=>rfl
  | cons x xs ih=>unfold rlt;rw[if_pos rfl];exact ih
 tr:=by
  intro a b c h1 h2
  induction a generalizing b c with
  | nil=>
   cases b with
   | nil=>simp [rlt] at h1
   | cons y ys=>
    cases c with
    | nil=>simp [rlt] at h2
    | cons z zs=>rfl
  | cons x xs ih=>
   cases b with
   | nil=>simp [rlt] at h1
   | cons y ys=>
    cases c with
    | nil=>simp [rlt] at h2
    | cons z zs=>
     unfold rlt at h1 h2 ⊢
     by_cases e1:x=y
     ·subst e1
      rw[if_pos rfl] at h1
      by_cases e2:x=z
      ·rw[if_pos e2] at h2 ⊢;exact ih h1 h2
      ·rw[if_neg e2] at h2 ⊢;exact h2
     ·rw[if_neg e1] at h1
      by_cases e2:y=z
      ·subst e2;rw[if_neg e1];exact h1
      ·rw[if_neg e2] at h2
       have h3:=vlt.tr h1 h2
       rw[if_neg (vlt.ne h3)];exact h3
 ap:=by
  intro a b h
  induction a generalizing b with
  | nil=>
   cases b with
   | nil=>exact absurd rfl h
   | cons y ys=>exact .inl rfl
  | cons x xs ih=>
   cases b with
   | nil=>exact .inr rfl
   | cons y ys=>
    unfold rlt
    by_cases e:x=y
    ·subst e
     rw[if_pos rfl,if_pos rfl]
     exact ih fun z=>h (by rw[z])
    ·rw[if_neg e,if_neg (Ne.symm e)]
     exact vlt.ap e
theorem pl:Sto plt where
 ir:=by intro a;simp [plt]
 tr:=by
  intro a b c h1 h2
  unfold plt at h1 h2 ⊢
  by_cases e1:a.r=b.r
  ·rw[if_pos e1] at h1
   by_cases e2:b.r=c.r
   ·rw[if_pos e2] at h2
    rw[if_pos (e1.trans e2)]
    simp at h1 h2 ⊢
    omega
   ·rw[if_neg e2] at h2
    rw[if_neg (by rw[e1];exact e2),e1]
    exact h2
  ·rw[if_neg e1] at h1
   by_cases e2:b.r=c.r
   ·rw[if_neg (by rw[← e2];exact e1),← e2];exact h1
   ·rw[if_neg e2] at h2
    have h3:=rlt_sto.tr h1 h2
    rw[if_neg (rlt_sto.ne h3)];exact h3
 ap:=by
  intro a b h
  unfold plt
  by_cases e:a.r=b.r
  ·rw[if_pos e,if_pos e.symm]
   have:a.k≠b.k:=fun z=>h (by cases a;cases b;simp at e z;rw[e,z])
   simp
   omega
  ·rw[if_neg e,if_neg (Ne.symm e)]
   exact rlt_sto.ap e
theorem zbv {b:Bool}{p:Prop} [Decidable p] (h:b=true↔p):b=decide p:=by
 cases b
 ·exact(decide_eq_false fun z=>by have:=h.mpr z;cases this).symm
 ·exact(decide_eq_true (h.mp rfl)).symm
theorem peq_rk (x y:Vl):peq x.rk y.rk=decide (x=y):=zbv (by cases x<;>cases y<;>simp [Vl.rk,peq,peqs])
theorem peq_pv (x y:Vl):peq x.pv y.pv=decide (x=y):=zbv (by cases x<;>cases y<;>simp [Vl.pv,peq])
theorem zdy {α:Type}{f:α→PV} (h:∀ x y,peq (f x) (f y)=true↔x=y):∀ xs ys:List α,peqs (xs.map f) (ys.map f)=true↔xs=ys
 | [],[]=>by simp [peqs]
 | [],_::_=>by simp [peqs]
 | _::_,[]=>by simp [peqs]
 | x::xs,y::ys=>by
  show(peq (f x) (f y)&&peqs (xs.map f) (ys.map f))=true↔_
  rw[Bool.and_eq_true,h,zdy h xs ys,List.cons.injEq]
theorem peq_row (a b:List Vl):peq (rowP a) (rowP b)=decide (a=b):=zbv (by
 show peqs _ _=true↔_
 exact zdy (fun x y=>by rw[peq_pv];exact decide_eq_true_iff) a b)
theorem peq_rkR (a b:List Vl):peq (rkR a) (rkR b)=decide (a=b):=zbv (by
 show peqs _ _=true↔_
 exact zdy (fun x y=>by rw[peq_rk];exact decide_eq_true_iff) a b)
theorem zda (p q:Pr):peq p.pv q.pv=decide (p=q):=zbv (by
 show(peq (rowP p.r) (rowP q.r)&&((p.k==q.k)&&true))=true↔_
 rw[peq_row]
 cases p;cases q
 simp)
theorem cmp_rk {op:CmpOp}{x y:Vl} (h:x≠y) (h3:HO.Op3 op):pok x.rk y.rk∧pcmp op x.rk y.rk=(if op=.Gt then y.lt x else x.lt y):=by
 have ns:∀ a b:Str,a≠b→(!decide (b.cps.toList<a.cps.toList))=decide (a.cps.toList<b.cps.toList):=fun a b e=>by
  rcases vlt.ap (a:=.s a) (b:=.s b) (fun z=>e (by cases z;rfl)) with z | z
  ·have w:=vlt.as z
   simp only[Vl.lt] at z w
   rw[z,w];rfl
  ·have w:=vlt.as z
   simp only[Vl.lt] at z w
   rw[z,w];rfl
 rcases h3 with rfl | rfl | rfl<;>cases x<;>cases y<;>simp [Vl.rk,pok,poks,pcmp,pcmps,peq,Vl.lt,HO.icmp,HO.scmp,HO.endB] at h ⊢<;>(try simp [h])
 ·omega
 ·rename_i a b
  have:=ns a b h
  simpa using this
def via {α:Type} (op:CmpOp) (lt:α→α→Bool) (a b:α):Bool:=match op with
 | .Lt=>lt a b
 | .LtE=>!lt b a
 | _=>lt b a
theorem via_ne {α:Type}{lt:α→α→Bool} (S:Sto lt){op:CmpOp} (h3:HO.Op3 op){a b:α} (h:a≠b):via op lt a b=(if op=.Gt then lt b a else lt a b):=by
 rcases h3 with rfl | rfl | rfl
 ·rfl
 ·show(!lt b a)=lt a b
  rcases S.ap h with z | z
  ·rw[z,S.as z];rfl
  ·rw[z,S.as z];rfl
 ·rfl
theorem cmp_rows {op:CmpOp} (h3:HO.Op3 op):∀ a b:List Vl,poks (a.map Vl.rk) (b.map Vl.rk)∧pcmps op (a.map Vl.rk) (b.map Vl.rk)=via op rlt a b
 | [],[]=>⟨trivial,by rcases h3 with rfl | rfl | rfl<;>rfl⟩
 | [],y::ys=>⟨trivial,by rcases h3 with rfl | rfl | rfl<;>simp [pcmps,HO.endB,via,rlt]⟩
 | x::xs,[]=>⟨trivial,by rcases h3 with rfl | rfl | rfl<;>simp [pcmps,HO.endB,via,rlt]⟩
 | x::xs,y::ys=>by
  show(if peq x.rk y.rk=true then poks (xs.map Vl.rk) (ys.map Vl.rk) else pok x.rk y.rk)∧(if peq x.rk y.rk=true then pcmps op (xs.map Vl.rk) (ys.map Vl.rk) else pcmp op x.rk y.rk)=_
  rw[peq_rk]
  by_cases e:x=y
  ·subst e
   obtain⟨h1,h2⟩:=cmp_rows h3 xs ys
   rw[if_pos (by simp),if_pos (by simp)]
   refine⟨h1,h2.trans ?_⟩
   rcases h3 with rfl | rfl | rfl<;>simp [via,rlt]
  ·obtain⟨h1,h2⟩:=cmp_rk e h3
   rw[if_neg (by simp [e]),if_neg (by simp [e])]
   refine⟨h1,h2.trans ?_⟩
   rw[via_ne rlt_sto h3 (by intro z;cases z;exact e rfl)]
   unfold rlt
   rw[if_neg e,if_neg (Ne.symm e)]
theorem cmp_rkR {op:CmpOp} (h3:HO.Op3 op) (a b:List Vl):pok (rkR a) (rkR b)∧pcmp op (rkR a) (rkR b)=via op rlt a b:=cmp_rows h3 a b
theorem zfp {op:CmpOp} (h3:HO.Op3 op) (p q:Pr):pok (rkP p) (rkP q)∧pcmp op (rkP p) (rkP q)=via op plt p q:=by
 show(if peq (rkR p.r) (rkR q.r)=true then poks [.int p.k] [.int q.k] else pok (rkR p.r) (rkR q.r))∧(if peq (rkR p.r) (rkR q.r)=true then pcmps op [.int p.k] [.int q.k] else pcmp op (rkR p.r) (rkR q.r))=_
 rw[peq_rkR]
 by_cases e:p.r=q.r
 ·rw[if_pos (by simp [e]),if_pos (by simp [e])]
  refine⟨?_,?_⟩
  ·show(if peq (.int p.k) (.int q.k)=true then True else True)
   split<;>trivial
  ·show(if peq (.int p.k) (.int q.k)=true then HO.endB op 0 0 else HO.icmp op p.k q.k)=_
   have h:peq (.int p.k) (.int q.k)=decide (p.k=q.k):=zbv (by simp [peq])
   rw[h]
   rcases h3 with rfl | rfl | rfl<;>by_cases g:p.k=q.k<;>simp [via,plt,e,g,HO.endB,HO.icmp]
   by_cases z:q.k<p.k<;>simp [z]<;>omega
 ·obtain⟨h1,h2⟩:=cmp_rkR h3 p.r q.r
  rw[if_neg (by simp [e]),if_neg (by simp [e])]
  refine⟨h1,h2.trans ?_⟩
  rcases h3 with rfl | rfl | rfl<;>simp [via,plt,e,Ne.symm e]
theorem dp0 {x:PV} (h:pdep x=some 0){n:Nat}:Dp n x:=⟨0,h,Nat.zero_le _⟩
theorem dp_pv (x:Vl) (n:Nat):Dp n x.pv:=by cases x<;>exact dp0 rfl
theorem dp_rk (x:Vl):Dp 1 x.rk:=by cases x<;>exact dp_tup.mpr ⟨0,rfl,Nat.le_refl _⟩
theorem Dp.up {n m:Nat}{x:PV} (h:Dp n x) (l:n≤m):Dp m x:=by obtain⟨k,e,g⟩:=h;exact⟨k,e,by omega⟩
theorem dp_t {n:Nat}{xs:List PV} (h:∀ x∈xs,Dp n x):Dp (n+1) (.tup xs):=dp_tup.mpr (dp_all.mpr h)
theorem dp_row (r:List Vl):Dp 1 (rowP r):=dp_t fun x hx=>by obtain⟨y,_,rfl⟩:=List.mem_map.mp hx;exact dp_pv y 0
theorem dp_rkR (r:List Vl):Dp 2 (rkR r):=dp_t fun x hx=>by obtain⟨y,_,rfl⟩:=List.mem_map.mp hx;exact dp_rk y
theorem zcW (p:Pr):Dp 2 p.pv:=dp_t fun x hx=>by
 rcases List.mem_cons.mp hx with rfl | hx
 ·exact dp_row _
 ·rcases List.mem_cons.mp hx with rfl | hx
  ·exact dp0 rfl
  ·cases hx
theorem dp_rkP (p:Pr):Dp 3 (rkP p):=dp_t fun x hx=>by
 rcases List.mem_cons.mp hx with rfl | hx
 ·exact dp_rkR _
 ·rcases List.mem_cons.mp hx with rfl | hx
  ·exact dp0 rfl
  ·cases hx
open PySem L2
def Tr:Nat→Type
 | 0=>List Pr
 | n+1=>List (Tr n)
def flat:(n:Nat)→Tr n→List Pr
 | 0,ps=>ps
 | n+1,(ks:List (Tr n))=>ks.flatMap (flat n)
def Good:(n:Nat)→Tr n→Prop
 | 0,(ps:List Pr)=>ps≠[]
 | n+1,(ks:List (Tr n))=>2≤ks.length∧∀ k∈ks,Good n k
def Weak:(n:Nat)→Tr n→Prop
 | 0,_=>True
 | n+1,(ks:List (Tr n))=>1≤ks.length∧∀ k∈ks,Good n k
def d0:Pr:=⟨[],0⟩
def fst (n:Nat) (t:Tr n):Pr:=(flat n t).headD d0
def seps {n:Nat} (ks:List (Tr n)):List Pr:=ks.tail.map (fst n)
abbrev Srt (l:List Pr):Prop:=l.Pairwise fun a b=>plt a b=true
theorem zbg:∀ {n:Nat}{t:Tr n},Good n t→flat n t≠[]
 | 0,_,h=>h
 | n+1,(ks:List (Tr n)),h=>by
  obtain⟨h1,h2⟩:=h
  cases ks with
  | nil=>simp at h1
  | cons k ks=>
   intro z
   have z':flat n k++ks.flatMap (flat n)=[]:=by simpa [flat] using z
   exact zbg (h2 k (by simp)) (List.append_eq_nil_iff.mp z').1
theorem zdM:∀ {n:Nat}{t:Tr n},Good n t→2 ^ n≤(flat n t).length
 | 0,(ps:List Pr),h=>by
  have:ps≠[]:=h
  show 1≤ps.length
  exact List.length_pos_iff.mpr this
 | n+1,(ks:List (Tr n)),h=>by
  obtain⟨h1,h2⟩:=h
  match ks,h1,h2 with
  | a::b::r,_,h2=>
   have ha:=zdM (h2 a (by simp))
   have hb:=zdM (h2 b (by simp))
   show _≤((a::b::r).flatMap (flat n)).length
   simp only[List.flatMap_cons,List.length_append]
   rw[Nat.pow_succ]
   omega
theorem zcE {n:Nat}{ks:List (Tr n)}{k:Tr n} (hk:k∈ks){p:Pr} (hp:p∈flat n k):p∈ks.flatMap (flat n):=List.mem_flatMap.mpr ⟨k,hk,hp⟩
theorem zdN {n:Nat}{t:Tr n} (h:Good n t):fst n t∈flat n t:=by
 unfold fst
 have:=zbg h
 cases e:flat n t with
 | nil=>exact absurd e this
 | cons p r=>simp
theorem fst_le {n:Nat}{t:Tr n} (h:Good n t) (s:Srt (flat n t)){p:Pr} (hp:p∈flat n t):plt p (fst n t)=false:=by
 unfold fst
 have:=zbg h
 cases e:flat n t with
 | nil=>exact absurd e this
 | cons q r=>
  rw[e] at hp s
  rcases List.mem_cons.mp hp with rfl | hp
  ·exact pl.ir _
  ·exact pl.as ((List.pairwise_cons.mp s).1 p hp)
def plc (l:List Pr) (p:Pr):Nat:=(l.filter fun q=>!plt p q).length
theorem plc_le (l:List Pr) (p:Pr):plc l p≤l.length:=List.length_filter_le ..
theorem srt_app {a b:List Pr}:Srt (a++b)↔Srt a∧Srt b∧∀ x∈a,∀ y∈b,plt x y=true:=List.pairwise_append
theorem zcw:∀ {l:List Pr}{p:Pr},Srt l→l.filter (fun q=>!plt p q)=l.take (plc l p)∧l.filter (fun q=>plt p q)=l.drop (plc l p)
 | [],p,_=>⟨rfl,rfl⟩
 | q::l,p,s=>by
  obtain⟨h1,h2⟩:=List.pairwise_cons.mp s
  obtain⟨i1,i2⟩:=zcw (p:=p) h2
  unfold plc
  cases e:plt p q with
  | true=>
   have hall:∀ x∈l,plt p x=true:=fun x hx=>pl.tr e (h1 x hx)
   have f1:l.filter (fun q=>!plt p q)=[]:=List.filter_eq_nil_iff.mpr fun x hx=>by simp [hall x hx]
   have f2:l.filter (fun q=>plt p q)=l:=List.filter_eq_self.mpr hall
   simp [List.filter_cons,e,f1,f2]
  | false=>
   simp only[List.filter_cons,e,Bool.not_false,if_true,List.length_cons,List.take_succ_cons,List.drop_succ_cons,Bool.false_eq_true,if_false]
   exact⟨by rw[i1];simp [plc],i2⟩
def ins (l:List Pr) (p:Pr):List Pr:=l.filter (fun q=>!plt p q)++p::l.filter (fun q=>plt p q)
theorem ins_srt {l:List Pr}{p:Pr} (s:Srt l) (hp:p∉l):Srt (ins l p):=by
 unfold ins
 rw[srt_app]
 refine⟨s.filter _,?_,?_⟩
 ·rw[Srt,List.pairwise_cons]
  exact⟨fun x hx=>(List.mem_filter.mp hx).2,s.filter _⟩
 ·intro x hx y hy
  have hx':=List.mem_filter.mp hx
  have lx:plt p x=false:=by simpa using hx'.2
  have xp:plt x p=true:=by
   rcases pl.nl lx with e | e
   ·exact absurd (e▸hx'.1) hp
   ·exact e
  rcases List.mem_cons.mp hy with rfl | hy
  ·exact xp
  ·exact pl.tr xp (List.mem_filter.mp hy).2
theorem ins_app {a b c:List Pr}{p:Pr} (ha:∀ x∈a,plt p x=false) (hc:∀ x∈c,plt p x=true):ins (a++b++c) p=a++ins b p++c:=by
 unfold ins
 have e1:a.filter (fun q=>!plt p q)=a:=List.filter_eq_self.mpr fun x hx=>by simp [ha x hx]
 have e2:a.filter (fun q=>plt p q)=[]:=List.filter_eq_nil_iff.mpr fun x hx=>by simp [ha x hx]
 have e3:c.filter (fun q=>!plt p q)=[]:=List.filter_eq_nil_iff.mpr fun x hx=>by simp [hc x hx]
 have e4:c.filter (fun q=>plt p q)=c:=List.filter_eq_self.mpr fun x hx=>hc x hx
 simp [List.filter_append,e1,e2,e3,e4,List.append_assoc]
theorem ins_mem {l:List Pr}{p q:Pr}:q∈ins l p↔q=p∨q∈l:=by
 unfold ins
 simp only[List.mem_append,List.mem_cons,List.mem_filter]
 cases plt p q<;>simp<;>exact Or.comm
theorem zcK {l:List Pr}{p:Pr}:(ins l p).length=l.length+1:=by
 unfold ins
 have:∀ l:List Pr,(l.filter fun q=>!plt p q).length+(l.filter fun q=>plt p q).length=l.length:=fun l=>by
  induction l with
  | nil=>rfl
  | cons q l ih=>cases e:plt p q<;>simp [List.filter_cons,e]<;>omega
 simp
 have:=this l
 omega
theorem zar {n:Nat}{ks:List (Tr n)}{i:Nat} (hi:i<ks.length):ks.flatMap (flat n)=(ks.take i).flatMap (flat n)++flat n ks[i]++(ks.drop (i+1)).flatMap (flat n):=by
 have e:ks=ks.take i++ks[i]::ks.drop (i+1):=by rw[← List.drop_eq_getElem_cons,List.take_append_drop]
 conv=>lhs;rw[e]
 rw[List.flatMap_append,List.flatMap_cons,List.append_assoc]
theorem sep_at {n:Nat}{ks:List (Tr n)}{j:Nat}{s:Pr} (h:(seps ks)[j]?=some s):∃ k,ks[j+1]?=some k∧s=fst n k:=by
 unfold seps at h
 rw[List.getElem?_map] at h
 obtain⟨k,hk,rfl⟩:=Option.map_eq_some_iff.mp h
 exact⟨k,by rw[← List.getElem?_tail];exact hk,rfl⟩
theorem zaY {n:Nat}{ks:List (Tr n)}:(seps ks).length=ks.length-1:=by unfold seps;simp
theorem seps_srt {n:Nat}{ks:List (Tr n)} (g:∀ k∈ks,Good n k) (s:Srt (ks.flatMap (flat n))):Srt (seps ks):=by
 unfold seps
 have:∀ l:List (Tr n),(∀ k∈l,Good n k)→Srt (l.flatMap (flat n))→Srt (l.map (fst n)):=fun l=>by
  induction l with
  | nil=>intro _ _;exact List.Pairwise.nil
  | cons k l ih=>
   intro g s
   rw[List.flatMap_cons,srt_app] at s
   rw[List.map_cons,Srt,List.pairwise_cons]
   refine⟨fun x hx=>?_,ih (fun k hk=>g k (by simp [hk])) s.2.1⟩
   obtain⟨k',hk',rfl⟩:=List.mem_map.mp hx
   exact s.2.2 _ (zdN (g k (by simp))) _ (zcE hk' (zdN (g k' (by simp [hk']))))
 cases ks with
 | nil=>exact List.Pairwise.nil
 | cons k ks=>
  rw[List.flatMap_cons,srt_app] at s
  exact this ks (fun k hk=>g k (by simp [hk])) s.2.1
theorem zbA {n:Nat}{ks:List (Tr n)} (h1:1≤ks.length) (g:∀ k∈ks,Good n k) (s:Srt (ks.flatMap (flat n))) (p:Pr):plc (seps ks) p<ks.length∧(∀ x∈(ks.take (plc (seps ks) p)).flatMap (flat n),plt p x=false∧x≠p)∧∀ x∈(ks.drop (plc (seps ks) p+1)).flatMap (flat n),plt p x=true:=by
 have hl:plc (seps ks) p<ks.length:=by
  have:=plc_le (seps ks) p
  rw[zaY] at this
  omega
 obtain⟨f1,f2⟩:=zcw (p:=p) (seps_srt g s)
 refine⟨hl,fun x hx=>?_,fun x hx=>?_⟩
 ·obtain⟨k,hk,hxk⟩:=List.mem_flatMap.mp hx
  obtain⟨j,hj,ej⟩:=List.mem_iff_getElem.mp hk
  have hj':j<plc (seps ks) p:=by simp at hj;omega
  have ek:ks[j]'(by omega)=k:=by rw[← ej];simp
  -- the sep behind this kid is not behind p
  have hs:j<(seps ks).length:=by have:=plc_le (seps ks) p;omega
  have ms:(seps ks)[j]∈(seps ks).take (plc (seps ks) p):=List.mem_iff_getElem.mpr ⟨j,by simp;omega,by simp⟩
  rw[← f1] at ms
  have ns:plt p (seps ks)[j]=false:=by simpa using (List.mem_filter.mp ms).2
  obtain⟨k',hk',es⟩:=sep_at (List.getElem?_eq_getElem hs)
  obtain⟨hb,ek'⟩:=List.getElem?_eq_some_iff.mp hk'
  have lt:plt x (seps ks)[j]=true:=by
   rw[es]
   have sp:=zar (n:=n) (ks:=ks) (i:=j) (by omega)
   rw[sp,srt_app] at s
   refine s.2.2 x (List.mem_append_right _ (by rw[ek];exact hxk)) _ (zcE (k:=k') ?_ (zdN (g k' (by rw[← ek'];exact List.getElem_mem _))))
   rw[← ek']
   exact List.mem_iff_getElem.mpr ⟨0,by simp;omega,by simp⟩
  have lp:plt x p=true:=by
   rcases pl.nl ns with e | e
   ·rw[← e] at lt;exact lt
   ·exact pl.tr lt e
  exact⟨pl.as lp,pl.ne lp⟩
 ·obtain⟨k,hk,hxk⟩:=List.mem_flatMap.mp hx
  obtain⟨j,hj,ej⟩:=List.mem_iff_getElem.mp hk
  have hb:plc (seps ks) p+1+j<ks.length:=by simp at hj;omega
  have ek:ks[plc (seps ks) p+1+j]=k:=by rw[← ej];simp
  have gk:Good n k:=g k (by rw[← ek];exact List.getElem_mem _)
  have ms:fst n k∈(seps ks).drop (plc (seps ks) p):=by
   refine List.mem_iff_getElem?.mpr ⟨j,?_⟩
   rw[List.getElem?_drop]
   unfold seps
   rw[List.getElem?_map,List.getElem?_tail,show plc (List.map (fst n) ks.tail) p+j+1=plc (seps ks) p+1+j by unfold seps;omega,List.getElem?_eq_getElem hb,ek]
   rfl
  rw[← f2] at ms
  have lt:plt p (fst n k)=true:=(List.mem_filter.mp ms).2
  have sk:Srt (flat n k):=by
   rw[zar hb,srt_app] at s
   rw[← ek]
   exact(srt_app.mp s.1).2.1
  rcases pl.nl (fst_le gk sk hxk) with e | e
  ·rw[e];exact lt
  ·exact pl.tr lt e
open PySem L2
def split {α:Type} (room:Nat) (xs:List α):List (List α):=if xs.length≤room then [xs] else [xs.take (xs.length / 2),xs.drop (xs.length / 2)]
theorem zbo {α:Type}{room:Nat}{xs:List α}:(split room xs).flatten=xs:=by
 unfold split
 split
 ·simp
 ·simp
theorem zbL {α:Type}{room:Nat}{xs:List α} (h:3≤room){ys:List α} (hy:ys∈split room xs):(∀ y∈ys,y∈xs)∧(xs.length≤room∨2≤ys.length)∧(xs.length≤room→ys=xs)∧ys.length≤xs.length:=by
 unfold split at hy
 split at hy
 ·rename_i c
  have:ys=xs:=by simpa using hy
  subst this
  exact⟨fun y h=>h,.inl c,fun _=>rfl,Nat.le_refl _⟩
 ·rename_i c
  have:ys=xs.take (xs.length / 2)∨ys=xs.drop (xs.length / 2):=by simpa using hy
  rcases this with rfl | rfl
  ·exact⟨fun y h=>List.mem_of_mem_take h,.inr (by simp;omega),fun z=>absurd z c,by simp;omega⟩
  ·exact⟨fun y h=>List.mem_of_mem_drop h,.inr (by simp;omega),fun z=>absurd z c,by simp⟩
theorem zaU {α:Type}{room:Nat}{xs:List α}:(split room xs).length=1∨(split room xs).length=2:=by
 unfold split
 split
 ·exact .inl rfl
 ·exact .inr rfl
def insT (most:Nat) (p:Pr):(n:Nat)→Tr n→List (Tr n)
 | 0,(ps:List Pr)=>split most (ps.take (plc ps p)++[p]++ps.drop (plc ps p))
 | n+1,(ks:List (Tr n))=>match ks[plc (seps ks) p]? with
  | some k=>split (most+1) (ks.take (plc (seps ks) p)++insT most p n k++ks.drop (plc (seps ks) p+1))
  | none=>[]
theorem ins_eq {l:List Pr}{p:Pr} (s:Srt l):l.take (plc l p)++[p]++l.drop (plc l p)=ins l p:=by
 obtain⟨h1,h2⟩:=zcw (p:=p) s
 unfold ins
 rw[h1,h2]
 simp
theorem zbh {α β:Type} (f:α→List β) (l:List (List α)):l.flatMap (fun x=>x.flatMap f)=l.flatten.flatMap f:=by
 induction l with
 | nil=>rfl
 | cons a l ih=>simp [ih]
theorem zdL {most:Nat} (h3:3≤most){p:Pr}:∀ (n:Nat) (t:Tr n),Good n t→Srt (flat n t)→p∉flat n t→(insT most p n t).flatMap (flat n)=ins (flat n t) p∧(∀ k∈insT most p n t,Good n k)∧((insT most p n t).length=1∨(insT most p n t).length=2)
 | 0,(ps:List Pr),g,s,hp=>by
  have s':Srt ps:=s
  show(split most (ps.take (plc ps p)++[p]++ps.drop (plc ps p))).flatMap id=ins ps p∧(∀ k∈split most (ps.take (plc ps p)++[p]++ps.drop (plc ps p)),k≠[])∧((split most (ps.take (plc ps p)++[p]++ps.drop (plc ps p))).length=1∨(split most (ps.take (plc ps p)++[p]++ps.drop (plc ps p))).length=2)
  rw[ins_eq s']
  refine⟨by rw[List.flatMap_id];exact zbo,fun k hk=>?_,zaU⟩
  obtain⟨_,h1,h2,_⟩:=zbL h3 hk
  rcases h1 with h | h
  ·rw[h2 h]
   intro z
   have:=zcK (l:=ps) (p:=p)
   rw[z] at this
   simp at this
  ·intro z;rw[z] at h;simp at h
 | n+1,(ks:List (Tr n)),g,s,hp=>by
  obtain⟨g1,g2⟩:=g
  have s':Srt (ks.flatMap (flat n)):=s
  obtain⟨hi,hb,ha⟩:=zbA (by omega) g2 s' p
  have e0:insT most p (n+1) ks=split (most+1) (ks.take (plc (seps ks) p)++insT most p n ks[plc (seps ks) p]++ks.drop (plc (seps ks) p+1)):=by
   show(match ks[plc (seps ks) p]? with | some k=>_ | none=>_)=_
   rw[List.getElem?_eq_getElem hi]
  rw[e0]
  generalize plc (seps ks) p=i at hi hb ha
  have sp:=zar (n:=n) hi
  have sk:Srt (flat n ks[i]):=by rw[sp,srt_app] at s';exact(srt_app.mp s'.1).2.1
  have nk:p∉flat n ks[i]:=fun z=>hp (zcE (List.getElem_mem hi) z)
  obtain⟨i1,i2,i3⟩:=zdL h3 n ks[i] (g2 _ (List.getElem_mem hi)) sk nk
  have gm:∀ k∈ks.take i++insT most p n ks[i]++ks.drop (i+1),Good n k:=fun k hk=>by
   rcases List.mem_append.mp hk with hk | hk
   ·rcases List.mem_append.mp hk with hk | hk
    ·exact g2 k (List.mem_of_mem_take hk)
    ·exact i2 k hk
   ·exact g2 k (List.mem_of_mem_drop hk)
  have lm:2≤(ks.take i++insT most p n ks[i]++ks.drop (i+1)).length:=by simp;omega
  refine⟨?_,fun k hk=>?_,zaU⟩
  ·show(split (most+1) _).flatMap (fun x=>x.flatMap (flat n))=ins (ks.flatMap (flat n)) p
   rw[zbh,zbo,List.flatMap_append,List.flatMap_append,i1,sp]
   exact(ins_app (fun x hx=>(hb x hx).1) ha).symm
  ·obtain⟨q1,q2,q3,_⟩:=zbL (by omega) hk
   refine⟨?_,fun k' hk'=>gm k' (q1 k' hk')⟩
   rcases q2 with q | q
   ·rw[q3 q];exact lm
   ·exact q
def small (most:Nat):(n:Nat)→Tr n→Bool
 | 0,(ps:List Pr)=>decide (ps.length<most / 2)
 | _+1,(ks:List (Tr _))=>decide (ks.length-1<most / 2)
def catT:(n:Nat)→Tr n→Tr n→Tr n
 | 0,(a:List Pr),(b:List Pr)=>a++b
 | _+1,(a:List (Tr _)),(b:List (Tr _))=>a++b
def splitT (most:Nat):(n:Nat)→Tr n→List (Tr n)
 | 0,(a:List Pr)=>split most a
 | _+1,(a:List (Tr _))=>split (most+1) a
def mend (most:Nat){n:Nat} (ks:List (Tr n)) (i:Nat):List (Tr n):=match ks[i]? with
 | some k=>if small most n k=true then (match ks[i-1]?,ks[i-1+1]? with
  | some x,some y=>ks.take (i-1)++splitT most n (catT n x y)++ks.drop (i-1+2)
  | _,_=>ks) else ks
 | none=>ks
def delT (most:Nat) (p:Pr):(n:Nat)→Tr n→Tr n
 | 0,(ps:List Pr)=>ps.filter fun q=>decide (q≠p)
 | n+1,(ks:List (Tr n))=>match ks[plc (seps ks) p]? with
  | some k=>mend most (ks.set (plc (seps ks) p) (delT most p n k)) (plc (seps ks) p)
  | none=>ks
theorem cat_flat:∀ (n:Nat) (a b:Tr n),flat n (catT n a b)=flat n a++flat n b
 | 0,_,_=>rfl
 | n+1,(a:List (Tr n)),(b:List (Tr n))=>by show(a++b).flatMap (flat n)=_;rw[List.flatMap_append];rfl
theorem spl_flat {most:Nat}:∀ (n:Nat) (a:Tr n),(splitT most n a).flatMap (flat n)=flat n a
 | 0,(a:List Pr)=>by show(split most a).flatMap id=a;rw[List.flatMap_id];exact zbo
 | n+1,(a:List (Tr n))=>by show(split (most+1) a).flatMap (fun x=>x.flatMap (flat n))=a.flatMap (flat n);rw[zbh,zbo]
theorem cat_good {most:Nat} (h3:3≤most):∀ (n:Nat) (a b:Tr n),(Good n a∧Weak n b)∨(Weak n a∧Good n b)→∀ k∈splitT most n (catT n a b),Good n k
 | 0,(a:List Pr),(b:List Pr),h,k,hk=>by
  have ne:(a++b:List Pr)≠[]:=by
   rcases h with ⟨h,_⟩ | ⟨_,h⟩
   ·exact List.append_ne_nil_of_left_ne_nil (show a≠[] from h) b
   ·exact List.append_ne_nil_of_right_ne_nil a (show b≠[] from h)
  obtain⟨_,h1,h2,_⟩:=zbL h3 (show k∈split most (a++b) from hk)
  show k≠([]:List Pr)
  rcases h1 with h | h
  ·rw[h2 h];exact ne
  ·intro z;rw[z] at h;simp at h
 | n+1,(a:List (Tr n)),(b:List (Tr n)),h,k,hk=>by
  obtain⟨q1,q2,q3,_⟩:=zbL (by omega) (show k∈split (most+1) (a++b) from hk)
  have hl:3≤(a++b).length∧∀ k∈a++b,Good n k:=by
   rcases h with ⟨h1,h2⟩ | ⟨h1,h2⟩
   ·exact⟨by have:=h1.1;have:=h2.1;simp;omega,fun k hk=>(List.mem_append.mp hk).elim (h1.2 k) (h2.2 k)⟩
   ·exact⟨by have:=h1.1;have:=h2.1;simp;omega,fun k hk=>(List.mem_append.mp hk).elim (h1.2 k) (h2.2 k)⟩
  refine⟨?_,fun k' hk'=>hl.2 k' (q1 k' hk')⟩
  rcases q2 with q | q
  ·rw[q3 q];omega
  ·exact q
theorem big_good {most:Nat} (h3:3≤most):∀ {n:Nat}{t:Tr n},Weak n t→small most n t=false→Good n t
 | 0,(ps:List Pr),_,h=>by
  have:¬ ps.length<most / 2:=by simpa [small] using h
  show ps≠[]
  intro z;rw[z] at this;simp at this;omega
 | n+1,(ks:List (Tr n)),w,h=>by
  have:¬ ks.length-1<most / 2:=by simpa [small] using h
  exact⟨by omega,w.2⟩
theorem mend_ok {most:Nat} (h3:3≤most){n:Nat}{ks:List (Tr n)}{i:Nat} (hi:i<ks.length) (h2:2≤ks.length) (w:Weak n ks[i]) (g:∀ (j:Nat) (k:Tr n),j≠i→ks[j]?=some k→Good n k) :
  (mend most ks i).flatMap (flat n)=ks.flatMap (flat n)∧(∀ k∈mend most ks i,Good n k)∧1≤(mend most ks i).length:=by
 unfold mend
 rw[List.getElem?_eq_getElem hi]
 dsimp only
 by_cases c:small most n ks[i]=true
 ·rw[if_pos c]
  have b1:i-1<ks.length:=by omega
  have b2:i-1+1<ks.length:=by omega
  rw[List.getElem?_eq_getElem b1,List.getElem?_eq_getElem b2]
  dsimp only
  have gw:(Good n ks[i-1]∧Weak n ks[i-1+1])∨(Weak n ks[i-1]∧Good n ks[i-1+1]):=by
   by_cases z:i=0
   ·subst z
    exact .inr ⟨w,g 1 _ (by omega) (List.getElem?_eq_getElem b2)⟩
   ·have e:i-1+1=i:=by omega
    refine .inl ⟨g (i-1) _ (by omega) (List.getElem?_eq_getElem b1),?_⟩
    simp only[e]
    exact w
  refine⟨?_,fun k hk=>?_,by
   have:1≤(splitT most n (catT n ks[i-1] ks[i-1+1])).length:=by
    cases n with
    | zero=>rcases zaU (room:=most) (xs:=(catT 0 ks[i-1] ks[i-1+1]:List Pr)) with h | h<;>(show 1≤(split most _).length;omega)
    | succ n=>rcases zaU (room:=most+1) (xs:=(catT (n+1) ks[i-1] ks[i-1+1]:List (Tr n))) with h | h<;>(show 1≤(split (most+1) _).length;omega)
   simp;omega⟩
  ·rw[List.flatMap_append,List.flatMap_append,spl_flat,cat_flat]
   have e:ks=ks.take (i-1)++(ks[i-1]::ks[i-1+1]::ks.drop (i-1+2)):=by
    rw[← List.drop_eq_getElem_cons b2,← List.drop_eq_getElem_cons b1,List.take_append_drop]
   conv=>rhs;rw[e,List.flatMap_append,List.flatMap_cons,List.flatMap_cons]
   simp only[List.append_assoc]
  ·rcases List.mem_append.mp hk with hk | hk
   ·rcases List.mem_append.mp hk with hk | hk
    ·obtain⟨j,hj,rfl⟩:=List.mem_iff_getElem.mp hk
     simp at hj
     exact g j _ (by omega) (by simp)
    ·exact cat_good h3 n _ _ gw k hk
   ·obtain⟨j,hj,rfl⟩:=List.mem_iff_getElem.mp hk
    simp at hj
    exact g (i-1+2+j) _ (by omega) (by simp)
 ·rw[if_neg c]
  have c':small most n ks[i]=false:=by simpa using c
  refine⟨rfl,fun k hk=>?_,by omega⟩
  obtain⟨j,hj,rfl⟩:=List.mem_iff_getElem.mp hk
  by_cases z:j=i
  ·subst z;exact big_good h3 w c'
  ·exact g j _ z (List.getElem?_eq_getElem hj)
theorem zfk {most:Nat} (h3:3≤most){p:Pr}:∀ (n:Nat) (t:Tr n),Good n t→Srt (flat n t)→flat n (delT most p n t)=(flat n t).filter (fun q=>decide (q≠p))∧Weak n (delT most p n t)
 | 0,(ps:List Pr),_,_=>⟨rfl,trivial⟩
 | n+1,(ks:List (Tr n)),g,s=>by
  obtain⟨g1,g2⟩:=g
  have s':Srt (ks.flatMap (flat n)):=s
  obtain⟨hi,hb,ha⟩:=zbA (by omega) g2 s' p
  have e0:delT most p (n+1) ks=mend most (ks.set (plc (seps ks) p) (delT most p n ks[plc (seps ks) p])) (plc (seps ks) p):=by
   show(match ks[plc (seps ks) p]? with | some k=>_ | none=>_)=_
   rw[List.getElem?_eq_getElem hi]
  rw[e0]
  generalize plc (seps ks) p=i at hi hb ha
  have sp:=zar (n:=n) hi
  have sk:Srt (flat n ks[i]):=by rw[sp,srt_app] at s';exact(srt_app.mp s'.1).2.1
  obtain⟨i1,i2⟩:=zfk h3 n ks[i] (g2 _ (List.getElem_mem hi)) sk
  have hi':i<(ks.set i (delT most p n ks[i])).length:=by simpa using hi
  obtain⟨m1,m2,m3⟩:=mend_ok h3 hi' (by simpa using g1) (by simpa using i2) (fun j k hj hk=>by
   rw[List.getElem?_set,if_neg (Ne.symm hj)] at hk
   exact g2 k (List.mem_of_getElem? hk))
  refine⟨?_,m3,m2⟩
  show(mend most _ i).flatMap (flat n)=(ks.flatMap (flat n)).filter _
  rw[m1,zar hi',sp,List.filter_append,List.filter_append]
  have f1:((ks.take i).flatMap (flat n)).filter (fun q=>decide (q≠p))=(ks.take i).flatMap (flat n):=List.filter_eq_self.mpr fun x hx=>decide_eq_true (hb x hx).2
  have f2:((ks.drop (i+1)).flatMap (flat n)).filter (fun q=>decide (q≠p))=(ks.drop (i+1)).flatMap (flat n):=List.filter_eq_self.mpr fun x hx=>decide_eq_true (pl.ne (ha x hx)).symm
  rw[f1,f2,← i1,List.take_set_of_le (Nat.le_refl i),List.drop_set_of_lt (Nat.lt_succ_self i)]
  simp
open PySem L2
def pvT:(n:Nat)→Tr n→PV
 | 0,(ps:List Pr)=>.tup [.str "leaf",.tup (ps.map Pr.pv)]
 | n+1,(ks:List (Tr n))=>.tup [.str "node",.tup ((seps ks).map Pr.pv),.tup (ks.map (pvT n))]
def word:Nat→Str
 | 0=>"leaf"
 | _+1=>"node"
def thg:(n:Nat)→Tr n→List PV
 | 0,(ps:List Pr)=>ps.map Pr.pv
 | n+1,(ks:List (Tr n))=>ks.map (pvT n)
def many:(n:Nat)→Tr n→Nat
 | 0,(ps:List Pr)=>ps.length
 | _+1,(ks:List (Tr _))=>ks.length
theorem zby:∀ (n:Nat) (t:Tr n),(thg n t).length=many n t
 | 0,_=>List.length_map ..
 | _+1,_=>List.length_map ..
def KG:(n:Nat)→Tr n→Prop
 | 0,_=>True
 | n+1,(ks:List (Tr n))=>∀ k∈ks,Good n k
theorem zbW:∀ {n:Nat}{t:Tr n},Good n t→KG n t
 | 0,_,_=>trivial
 | _+1,_,h=>h.2
theorem zbt {n:Nat}{ks:List (Tr n)} (g:∀ k∈ks,Good n k):ks.length≤(ks.flatMap (flat n)).length:=by
 induction ks with
 | nil=>simp
 | cons k ks ih=>
  have:=ih fun k hk=>g k (by simp [hk])
  have h1:=List.length_pos_iff.mpr (zbg (g k (by simp)))
  rw[List.flatMap_cons,List.length_append,List.length_cons]
  omega
theorem zdG {n:Nat}{ks:List (Tr n)}{k:Tr n} (hk:k∈ks):(flat n k).length≤(ks.flatMap (flat n)).length:=by
 induction ks with
 | nil=>cases hk
 | cons x ks ih=>
  rw[List.flatMap_cons,List.length_append]
  rcases List.mem_cons.mp hk with rfl | hk
  ·omega
  ·have:=ih hk;omega
theorem zcm:∀ {n:Nat}{t:Tr n},KG n t→many n t≤(flat n t).length
 | 0,_,_=>Nat.le_refl _
 | n+1,_,h=>zbt h
theorem many_cat:∀ (n:Nat) (a b:Tr n),many n (catT n a b)=many n a+many n b
 | 0,_,_=>List.length_append
 | _+1,_,_=>List.length_append
theorem thg_cat:∀ (n:Nat) (a b:Tr n),thg n (catT n a b)=thg n a++thg n b
 | 0,_,_=>List.map_append
 | _+1,_,_=>List.map_append
theorem kg_cat:∀ (n:Nat){a b:Tr n},KG n a→KG n b→KG n (catT n a b)
 | 0,_,_,_,_=>trivial
 | _+1,_,_,h1,h2=>fun k hk=>(List.mem_append.mp hk).elim (h1 k) (h2 k)
theorem weak_kg:∀ {n:Nat}{t:Tr n},Weak n t→KG n t
 | 0,_,_=>trivial
 | _+1,_,h=>h.2
def cutT:(n:Nat)→Tr n→Nat→Tr n×Tr n
 | 0,(ps:List Pr),i=>(ps.take i,ps.drop i)
 | _+1,(ks:List (Tr _)),i=>(ks.take i,ks.drop i)
theorem thg_cut:∀ (n:Nat) (t:Tr n) (i:Nat),thg n (cutT n t i).1=(thg n t).take i∧thg n (cutT n t i).2=(thg n t).drop i
 | 0,_,_=>⟨List.map_take,List.map_drop⟩
 | _+1,_,_=>⟨List.map_take,List.map_drop⟩
theorem kg_cut:∀ (n:Nat){t:Tr n} (i:Nat),KG n t→KG n (cutT n t i).1∧KG n (cutT n t i).2
 | 0,_,_,_=>⟨trivial,trivial⟩
 | _+1,_,_,h=>⟨fun k hk=>h k (List.mem_of_mem_take hk),fun k hk=>h k (List.mem_of_mem_drop hk)⟩
def rm (n most:Nat):Nat:=if n=0 then most else most+1
theorem spl_eq {most:Nat}:∀ (n:Nat) (t:Tr n),splitT most n t=if many n t≤rm n most then [t] else [(cutT n t (many n t / 2)).1,(cutT n t (many n t / 2)).2]
 | 0,_=>rfl
 | _+1,_=>rfl
abbrev Bd:=Option (List Vl×Bool)
def frm (lo:Bd) (p:Pr):Bool:=match lo with
 | none=>true
 | some (v,b)=>rlt v (p.r.take v.length)||(b&&decide (p.r.take v.length=v))
theorem dp_T:∀ (n:Nat) (t:Tr n),Dp (2*n+4) (pvT n t)
 | 0,(ps:List Pr)=>dp_t fun x hx=>by
  rcases List.mem_cons.mp hx with rfl | hx
  ·exact dp0 rfl
  ·rcases List.mem_cons.mp hx with rfl | hx
   ·exact dp_t fun y hy=>by obtain⟨p,_,rfl⟩:=List.mem_map.mp hy;exact zcW p
   ·cases hx
 | n+1,(ks:List (Tr n))=>by
  show Dp (2*n+5+1) _
  refine dp_t fun x hx=>?_
  rcases List.mem_cons.mp hx with rfl | hx
  ·exact dp0 rfl
  ·rcases List.mem_cons.mp hx with rfl | hx
   ·exact Dp.up (n:=3) (dp_t fun y hy=>by obtain⟨p,_,rfl⟩:=List.mem_map.mp hy;exact zcW p) (by omega)
   ·rcases List.mem_cons.mp hx with rfl | hx
    ·exact dp_t fun y hy=>by obtain⟨p,_,rfl⟩:=List.mem_map.mp hy;exact dp_T n p
    ·cases hx
theorem sLL:(Str.ofString "leaf"==Str.ofString "leaf")=true:=by decide +kernel
theorem sNL:(Str.ofString "node"==Str.ofString "leaf")=false:=by decide +kernel
theorem sLN:(Str.ofString "leaf"==Str.ofString "node")=false:=by decide +kernel
theorem sNN:(Str.ofString "node"==Str.ofString "node")=true:=by decide +kernel
theorem cutF {xs:List PV}{i:Int} (h0:0≤i):cutP xs (some i) none=xs.drop i.toNat:=by
 by_cases h:i≤xs.length
 ·exact cut_from h0 h
 ·unfold cutP
  have e:HT.sIx xs.length 0 (some i)=xs.length:=by
   show(if i<0 then _ else min i.toNat xs.length)=_
   rw[if_neg (by omega)];omega
  rw[e,List.drop_of_length_le (Nat.le_refl _),List.drop_of_length_le (by omega),List.take_nil]
theorem cutU {xs:List PV}{i:Int} (h0:0≤i):cutP xs none (some i)=xs.take i.toNat:=by
 by_cases h:i≤xs.length
 ·exact cut_to h0 h
 ·unfold cutP
  have e:HT.sIx xs.length xs.length (some i)=xs.length:=by
   show(if i<0 then _ else min i.toNat xs.length)=_
   rw[if_neg (by omega)];omega
  have e0:HT.sIx xs.length 0 none=0:=rfl
  rw[e,e0,List.drop_zero,List.take_of_length_le (by omega),List.take_of_length_le (by omega)]
def lvF:Nat→PV→Nat
 | f+1,.tup [_,_,.tup (k::_)]=>lvF f k+1
 | _,_=>0
theorem lvF_T:∀ (f m:Nat) (t:Tr m),Good m t→m≤f→lvF f (pvT m t)=m
 | 0,0,_,_,_=>rfl
 | f+1,0,_,_,_=>rfl
 | f+1,m+1,(k::ks:List (Tr m)),g,h=>by
  show lvF f (pvT m k)+1=m+1
  rw[lvF_T f m k (g.2 k (by simp)) (by omega)]
 | f+1,m+1,([]:List (Tr m)),g,h=>by have:=g.1;simp at this
theorem fst_kid {n:Nat}{k:Tr n}{ks:List (Tr n)} (g:Good n k):fst (n+1) (k::ks:List (Tr n))=fst n k:=by
 unfold fst
 show((k::ks).flatMap (flat n)).headD d0=_
 rw[List.flatMap_cons]
 have:=zbg g
 cases e:flat n k with
 | nil=>exact absurd e this
 | cons p r=>rfl
theorem seps_pv {n:Nat} (ks:List (Tr n)):(seps ks).map Pr.pv=ks.tail.map fun k=>(fst n k).pv:=by unfold seps;rw[List.map_map];rfl
theorem many_cut (n:Nat) (t:Tr n) (i:Nat):many n (cutT n t i).1≤many n t∧many n (cutT n t i).2≤many n t:=by
 obtain⟨h1,h2⟩:=thg_cut n t i
 have l1:=congrArg List.length h1
 have l2:=congrArg List.length h2
 rw[zby,List.length_take,zby] at l1
 rw[zby,List.length_drop,zby] at l2
 omega
def Few (l:List Pr):Prop:=l.length≤90∧∀ q∈l,q.r.length≤900
theorem zdP {n:Nat}{ks:List (Tr n)}{k:Tr n} (hk:k∈ks) (h:Few (ks.flatMap (flat n))):Few (flat n k):=⟨Nat.le_trans (zdG hk) h.1,fun q hq=>h.2 q (zcE hk hq)⟩
theorem zdO {n:Nat}{ks:List (Tr n)} (g:∀ k∈ks,Good n k) (h:Few (ks.flatMap (flat n))):(seps ks).length≤200∧∀ q∈seps ks,q.r.length≤900:=by
 refine⟨by have:=zbt g;have:=h.1;rw[zaY];omega,fun q hq=>?_⟩
 unfold seps at hq
 obtain⟨k,hk,rfl⟩:=List.mem_map.mp hq
 have hk':=List.mem_of_mem_tail hk
 exact h.2 _ (zcE hk' (zdN (g k hk')))
theorem zaX {n:Nat}{ks:List (Tr n)}{k:Tr n} (hk:k∈ks) (s:Srt (ks.flatMap (flat n))):Srt (flat n k):=by
 obtain⟨i,hi,rfl⟩:=List.mem_iff_getElem.mp hk
 rw[zar hi,srt_app] at s
 exact(srt_app.mp s.1).2.1
theorem map_set' {α β:Type} (f:α→β) (l:List α) (i:Nat) (a:α):(l.map f).set i (f a)=(l.set i a).map f:=List.map_set.symm
theorem sI {n d:Nat}{i:Int} (h0:0≤i) (h1:i≤n):HT.sIx n d (some i)=i.toNat:=by
 show(if i<0 then _ else min i.toNat n)=_
 rw[if_neg (by omega)];omega
theorem cutB {xs:List PV}{a b:Nat} (h1:a≤b) (h2:b≤xs.length):cutP xs (some (a:Int)) (some (b:Int))=(xs.drop a).take (b-a):=by
 unfold cutP
 rw[sI (by omega) (by omega),sI (by omega) (by omega),Int.toNat_natCast,Int.toNat_natCast]
theorem ix_word:∀ (n:Nat) (t:Tr n),gIxA (pvT n t) (.int 0) (.str (word n))
 | 0,t=>by rw[show pvT 0 t=.tup [.str "leaf",.tup ((t:List Pr).map Pr.pv)] from rfl,gIxA_t];exact at_0
 | n+1,t=>by rw[show pvT (n+1) t=.tup [.str "node",.tup ((seps (t:List (Tr n))).map Pr.pv),.tup ((t:List (Tr n)).map (pvT n))] from rfl,gIxA_t];exact at_0
theorem two_of {α:Type}{ks:List α}{b:Nat} (h:b+1<ks.length):(ks.drop b).take 2=[ks[b],ks[b+1]]:=by
 rw[List.drop_eq_getElem_cons (by omega),List.take_succ_cons,List.drop_eq_getElem_cons h,List.take_succ_cons,List.take_zero]
open PySem L2
local macro_rules | `(tactic| walk_at "pv") => `(tactic| try simp only [endsL, varS_o2, pkS_o2, pkS_p2, retO_o2, ↓uMeth_c, ↓methK_c, ↓uFld_c, ↓zez, ↓zed, ↓zee, ↓uMake_c, ↓zfu, ↓uLput_c, insO_o, sLL, sNL, sLN, sNN, gMax_i, ↓uNext_c, ↓uSeq_c, ↓uIf_c, ↓uSet_c, ↓uOwn_c, ↓uDrop_c, ↓uRet_c, ↓uRetF_c, ↓uRetO_c, ↓zfv, ↓uVar_c, ↓uPk_c, ↓uC_c, ↓uNil_c, ↓uCons_c, ↓uTup_c, ↓uLst_c, ↓u2_c, ↓u2t_c, ↓uAnd_c, ↓uOr_c, ↓uNot_c, ↓uAndV_c, ↓uNotV_c, ↓uIfE_c, ↓uTru_c, ↓uInst_c, ↓u1_c, ↓gN_c, ↓uIt_c, ↓uItN_c, ↓uRng_c, ↓uFor_c, ↓uComp_c, ↓uYes_c, ↓uCall_c, ↓zfw, ↓uApp_c, ↓uRevM_c, ↓uExt_c, ↓zec, ↓uNo_c, ↓uSo_c, ↓uSl_c, ↓uNeg_c, ↓uChnT_c, ↓rtS_c, ↓take_c, ↓tr1c, ↓tr2c, ↓tr3c, ↓tr4c, put_c, frz_c, forget_c, pv_l, pv_d, varS_v, varS_o, pkS_v, pkS_o, pkS_p, gs0_n, itS_v, itS_o, itS_p, itK_l, itK_t, itK_s, intK_i, lstO_o, dicO_o, ownC_l, ownC_d, retO_o, soK_i, revK_l, extK_l, extK_t, endsV_e, endsV_f, endsS_e, endsS_f, rl1, rl2, rl3, rl4, pk_s, pk_i, gDict_l, ex1_e, ex1_e', ex1_a, ex1_a', ex1_a2, ex1_a3, exists_eq_left, exists_eq_left', exists_eq_right, exists_eq_right', cif_t, cif_f, cif_n, inn, caps, Sl.cap, List.replicate, List.map_cons, List.map_nil, List.cons_append, List.nil_append, Option.join_some, Option.map_some, List.getElem?_cons_zero, List.getElem?_cons_succ, List.getElem?_nil, List.set_cons_zero, List.set_cons_succ, true_and, and_true, and_self, eq_self_iff_true, Bool.false_eq_true, Bool.not_true, Bool.not_false, Option.some.injEq, PV.bl.injEq, PV.int.injEq, PV.str.injEq, PV.tup.injEq, PV.lst.injEq, Sl.own.injEq, Sl.val.injEq, OC.lst.injEq, OC.dic.injEq, List.cons.injEq, List.length_cons, List.length_nil, gAdd_i, gAdd_s, gAdd_t, gAdd_l, gCat_l, gI_i, gI0_i, gLen_t, gLen_l, gLen_s, gIxA_t, gIxA_l, gIxA_s, gIxA_d, gSl_t, gSl_l, gSl_s, gSlF_l, zfM, zfN, gList_t, gList_l, gInA_s, gInA_d, gInA_lm, gInA_tm, gLt_i, gLt_s, gLe_i, gLe_s, gIs_b, gIs_nn, gIs_tn, gIs_ln, gIs_in, gIs_sn, gIsN_nn, gIsN_tn, gIsN_ln, gIsN_in, gIsN_sn, gAll_m, gAny_m, gInt_i, gInt_b, gDix_d, gDin_d, gEq_s, gEq_i, tru_b, tru_i, tru_t, tru_l, tru_n, ty_ss, ty_tt, ty_ll, ty_ii, ty_bi, ty_st, ty_ts, at_0, at_1, at_2, at_3, at_4, Bool.false_xor, Bool.true_xor, Int.reduceBEq, Int.reduceLT, Int.reduceLE, Int.reduceAdd, decide_true, decide_false, Nat.reduceAdd, Nat.reduceLeDiff, Nat.reduceEqDiff, List.map_map, Function.comp_def])
def rRank (x r:PV):Prop:=∃ v:Vl,x=v.pv∧r=v.rk
def rRowRank (x r:PV):Prop:=∃ v:List Vl,x=rowP v∧v.length≤900∧r=rkR v
def rPairRank (x r:PV):Prop:=∃ p:Pr,x=p.pv∧p.r.length≤900∧r=rkP p
def rWhole (x r:PV):Prop:=∃ i,x=.int i∧r=.bl true
section
variable {P:Program}{w:World}{K:PySem.W.Frag}{mg:Str→Option Value}{base:Heap}
theorem zcs:FnScope ["thing"] ["thing"] (defScope zbu):=⟨rfl,rfl,rfl,by decide +kernel,rfl,by decide +kernel,by decide +kernel⟩
theorem k_is_whole {k:Nat} (D:Df K mg "is_whole" zbu) (B:Bt mg):Kn P w K mg base (k+1) "is_whole" (spV K false (Rl1 rWhole)):=by
 refine D.okV zcs (fun _ _ _ _ _ _ us hl=>match us,hl with | [_],_=>rfl) (fun _ _=>Rl1.len) (by decide) (fun f cdv A outer s H E hr=>⟨_,(s1 (zal (e_and (zbb .int rfl B.isinstance B.int PyProof.Rows.boot_int (qn 0)) (e_one (e_not (zbb .bool rfl B.isinstance B.bool PyProof.Rows.boot_bool (qn 0))))))),fun B' xs r h=>?_⟩)
 obtain⟨x0,rfl,h⟩:=h
 change (_:US) (endsV false r) ⟨B',[some (.val x0)],none⟩
 obtain⟨i,rfl,rfl⟩:=h
 walk_at "pv"
theorem sc_rank:FnScope ["value"] ["value"] (defScope d_rank):=⟨rfl,rfl,rfl,by decide +kernel,rfl,by decide +kernel,by decide +kernel⟩
theorem k_rank {k:Nat} (D:Df K mg "rank" d_rank) (B:Bt mg):Kn P w K mg base (k+1) "rank" (spV K false (Rl1 rRank)):=by
 refine D.okV sc_rank (fun _ _ _ _ _ _ us hl=>match us,hl with | [_],_=>rfl) (fun _ _=>Rl1.len) (by decide) (fun f cdv A outer s H E hr=>⟨_,(sc (s_if (t_is (qn 0) (qv v0)) (s1 (zal (et (ac vi (ac vi an))))) sn)
  (sc (s_if (zbc rfl (qv (zbb .int rfl B.isinstance B.int PyProof.Rows.boot_int (qn 0)))) (s1 (zal (et (ac vi (ac (vn 0) an))))) sn)
  (s1 (zal (et (ac vi (ac (vn 0) an))))))),fun B' xs r h=>?_⟩)
 obtain⟨x0,rfl,h⟩:=h
 change (_:US) (endsV false r) ⟨B',[some (.val x0)],none⟩
 obtain⟨v,rfl,rfl⟩:=h
 cases v with
 | n=>
  simp only[Vl.pv,Vl.rk]
  walk_at "pv"
 | i x=>
  simp only[Vl.pv,Vl.rk]
  walk_at "pv"
 | s x=>
  simp only[Vl.pv,Vl.rk]
  walk_at "pv"
  refine zaa false rfl ?_
  walk_at "pv"
theorem zeP:FnScope ["row"] ["row"] (defScope zcc):=⟨rfl,rfl,rfl,by decide +kernel,rfl,by decide +kernel,by decide +kernel⟩
theorem k_row_rank {k:Nat} (D:Df K mg "row_rank" zcc) (B:Bt mg) (F_rank:Kn P w K mg base k "rank" (spV K false (Rl1 rRank))):Kn P w K mg base (k+1) "row_rank" (spV K false (Rl1 rRowRank)):=by
 refine D.okV zeP (fun _ _ _ _ _ _ us hl=>match us,hl with | [_],_=>rfl) (fun _ _=>Rl1.len) (by decide) (fun f cdv A outer s H E hr=>⟨_,(s1 (zal (zbZ rfl B.tuple (qf (zci (N:=["value"]) (k:=1) (ix:=[]) cS0 rfl (i_n rfl 0) (fun _ _ _ _=>(g_n (i:=0) (by show(["value"]:List Str).Nodup;decide +kernel))) (fun _ _ _ _=>f_0) (fun _ _ _ _=>(zap rfl F_rank hr (ac (vn 0) an)))))))),fun B' xs r h=>?_⟩)
 obtain⟨x0,rfl,h⟩:=h
 change (_:US) (endsV false r) ⟨B',[some (.val x0)],none⟩
 obtain⟨v,rfl,few,rfl⟩:=h
 simp only[rowP,rkR]
 walk_at "pv"
 refine zeF v Vl.pv Vl.rk (by omega) (fun B x hx R hR=>?_) ?_
 ·walk_at "pv"
  refine zaa _ ⟨x,rfl,rfl⟩ ?_
  walk_at "pv"
  exact hR _ ⟨rfl,rfl⟩ rfl
 ·walk_at "pv"
theorem zel:FnScope ["pair"] ["pair"] (defScope zbF):=⟨rfl,rfl,rfl,by decide +kernel,rfl,by decide +kernel,by decide +kernel⟩
theorem zfe {k:Nat} (D:Df K mg "pair_rank" zbF) (B:Bt mg) (F_row_rank:Kn P w K mg base k "row_rank" (spV K false (Rl1 rRowRank))):Kn P w K mg base (k+1) "pair_rank" (spV K false (Rl1 rPairRank)):=by
 refine D.okV zel (fun _ _ _ _ _ _ us hl=>match us,hl with | [_],_=>rfl) (fun _ _=>Rl1.len) (by decide) (fun f cdv A outer s H E hr=>⟨_,(s1 (zal (et (ac (zap rfl F_row_rank hr (ac (zaf rfl hr (qn 0) (qv vi)) an)) (ac (zaf rfl hr (qn 0) (qv vi)) an))))),fun B' xs r h=>?_⟩)
 obtain⟨x0,rfl,h⟩:=h
 change (_:US) (endsV false r) ⟨B',[some (.val x0)],none⟩
 obtain⟨p,rfl,few,rfl⟩:=h
 simp only[Pr.pv,rkP]
 walk_at "pv"
 refine zaa _ ⟨p.r,rfl,few,rfl⟩ ?_
 walk_at "pv"
def rFirst (x r:PV):Prop:=∃ (n:Nat) (t:Tr n),x=pvT n t∧Good n t∧r=(fst n t).pv
def rShape (x y r:PV):Prop:=∃ (n:Nat) (t:Tr n),x=.str (word n)∧y=.lst (thg n t)∧KG n t∧many n t≤200∧r=pvT n t
def rThings (x r:PV):Prop:=∃ (n:Nat) (t:Tr n),x=pvT n t∧many n t≤200∧r=.lst (thg n t)
def rRoom (x y r:PV):Prop:=∃ (n most:Nat),x=.str (word n)∧y=.int most∧r=.int (rm n most)
def rSmall (x y r:PV):Prop:=∃ (n most:Nat) (t:Tr n),x=pvT n t∧y=.int most∧most≤9∧many n t≤200∧r=.bl (small most n t)
theorem sc_first_pair:FnScope ["shape"] ["shape"] (defScope zbj):=⟨rfl,rfl,rfl,by decide +kernel,rfl,by decide +kernel,by decide +kernel⟩
theorem zev {k:Nat} (D:Df K mg "first_pair" zbj) (B:Bt mg):Kn P w K mg base (k+1) "first_pair" (spV K false (Rl1 rFirst)):=by
 refine D.okV sc_first_pair (fun _ _ _ _ _ _ us hl=>match us,hl with | [_],_=>rfl) (fun _ _=>Rl1.len) (by decide) (fun f cdv A outer s H E hr=>⟨_,(sc (zeQ PassesOwn.never (t_eq rfl hr (qv (zaf rfl hr (qn 0) (qv vi))) (qv vs))
  (s1 (zas (i:=0) sc_first_pair.nd (zaf rfl hr (qv (zaf rfl hr (qn 0) (qv vi))) (qv vi)))))
  (s1 (zal (zaf rfl hr (qv (zaf rfl hr (qn 0) (qv vi))) (qv vi))))),fun B' xs r h=>?_⟩)
 obtain⟨x0,rfl,h⟩:=h
 change (_:US) (endsV false r) ⟨B',[some (.val x0)],none⟩
 obtain⟨n,t,rfl,g,rfl⟩:=h
 walk_at "pv"
 refine⟨fun A=>∃ (m:Nat) (u:Tr m),A=⟨B',[some (.val (pvT m u))],none⟩∧Good m u∧m≤n∧fst m u=fst n t,fun A=>match A.rho with | [some (.val x)]=>lvF n x | _=>0,⟨n,t,rfl,g,Nat.le_refl _,rfl⟩,?_⟩
 rintro A1 ⟨m,u,rfl,gu,hm,ef⟩
 cases m with
 | zero=>
  simp only[pvT]
  walk_at "pv"
  have hu:flat 0 u≠[]:=zbg gu
  obtain⟨q,qs,rfl⟩:∃ q qs,u=(q::qs:List Pr):=by cases u with | nil=>exact absurd rfl hu | cons q qs=>exact⟨q,qs,rfl⟩
  rw[if_neg (fun z=>z),List.map_cons]
  refine zaa _ at_0 ?_
  rw[← ef]
  rfl
 | succ m=>
  obtain⟨q,qs,rfl⟩:∃ q qs,u=(q::qs:List (Tr m)):=by cases u with | nil=>have:=gu.1;simp at this | cons q qs=>exact⟨q,qs,rfl⟩
  simp only[pvT]
  walk_at "pv"
  rw[if_pos trivial]
  have gq:Good m q:=gu.2 q (by simp)
  refine⟨⟨m,q,rfl,gq,by omega,by rw[← ef];exact(fst_kid gq).symm⟩,?_⟩
  have e1:=lvF_T n m q gq (by omega)
  have e2:=lvF_T n (m+1) _ gu hm
  simp only[pvT] at e2
  rw[e1]
  refine Nat.lt_of_lt_of_eq (Nat.lt_succ_self m) ?_
  exact e2.symm
theorem zeO:FnScope ["word","things"] ["word","things"] (defScope zcb):=⟨rfl,rfl,rfl,by decide +kernel,rfl,by decide +kernel,by decide +kernel⟩
theorem k_shape_of {k:Nat} (D:Df K mg "shape_of" zcb) (B:Bt mg) (F_first_pair:Kn P w K mg base k "first_pair" (spV K false (Rl1 rFirst))):Kn P w K mg base (k+1) "shape_of" (spV K false (Rl2 rShape)):=by
 refine D.okV zeO (fun _ _ _ _ _ _ us hl=>match us,hl with | [_,_],_=>rfl) (fun _ _=>Rl2.len) (by decide) (fun f cdv A outer s H E hr=>⟨_,(sc (s_if (t_eq rfl hr (qn 0) (qv vs)) (s1 (zal (et (ac vs (ac (zbZ rfl B.tuple (qn 1)) an))))) sn)
  (s1 (zal (et (ac vs (ac (zbZ rfl B.tuple (qf (zci (N:=["kid"]) (k:=1) (ix:=[]) cS0 rfl (iv rfl (e_sl rfl (qn 1) (o_so vi) o_no)) (fun _ _ _ _=>(g_n (i:=0) (by show(["kid"]:List Str).Nodup;decide +kernel))) (fun _ _ _ _=>f_0) (fun _ _ _ _=>(zap rfl F_first_pair hr (ac (vn 0) an)))))) (ac (zbZ rfl B.tuple (qn 1)) an))))))),fun B' xs r h=>?_⟩)
 obtain⟨x0,x1,rfl,h⟩:=h
 change (_:US) (endsV false r) ⟨B',[some (.val x0),some (.val x1)],none⟩
 obtain⟨n,t,rfl,rfl,g,few,rfl⟩:=h
 cases n with
 | zero=>
  simp only[word,thg,pvT]
  walk_at "pv"
 | succ n=>
  change List (Tr n) at t
  simp only[word,thg,pvT]
  walk_at "pv"
  have few':t.length≤200:=few
  rw[cutF (by decide),show(1:Int).toNat=1 from rfl,List.drop_one,← List.map_tail]
  refine zeF t.tail (pvT n) (fun k=>(fst n k).pv) (by rw[List.length_tail];omega) (fun B x hx R hR=>?_) ?_
  ·walk_at "pv"
   refine zaa _ ⟨n,x,rfl,g x (List.mem_of_mem_tail hx),rfl⟩ ?_
   exact hR _ ⟨rfl,rfl⟩ rfl
  ·walk_at "pv"
   rw[seps_pv]
theorem zek:FnScope ["shape"] ["shape"] (defScope zbD):=⟨rfl,rfl,rfl,by decide +kernel,rfl,by decide +kernel,by decide +kernel⟩
theorem zfc {k:Nat} (D:Df K mg "things_of" zbD) (B:Bt mg):Kn P w K mg base (k+1) "things_of" (spV K true (Rl1 rThings)):=by
 refine D.okV zek (fun _ _ _ _ _ _ us hl=>match us,hl with | [_],_=>rfl) (fun _ _=>Rl1.len) (by decide) (fun f cdv A outer s H E hr=>⟨_,(s1 (zcu (e_list rfl B.list (qv (zaf rfl hr (qn 0) (qv (e_neg vi))))))),fun B' xs r h=>?_⟩)
 obtain⟨x0,rfl,h⟩:=h
 change (_:US) (endsV true r) ⟨B',[some (.val x0)],none⟩
 obtain⟨n,t,rfl,few,rfl⟩:=h
 cases n with
 | zero=>
  simp only[thg,pvT]
  walk_at "pv"
  refine zaa _ rfl ?_
  walk_at "pv"
 | succ n=>
  simp only[thg,pvT]
  walk_at "pv"
  refine zaa _ rfl ?_
  walk_at "pv"
theorem sc_room_of:FnScope ["word","most"] ["word","most"] (defScope zcN):=⟨rfl,rfl,rfl,by decide +kernel,rfl,by decide +kernel,by decide +kernel⟩
theorem k_room_of {k:Nat} (D:Df K mg "room_of" zcN) (B:Bt mg):Kn P w K mg base (k+1) "room_of" (spV K false (Rl2 rRoom)):=by
 refine D.okV sc_room_of (fun _ _ _ _ _ _ us hl=>match us,hl with | [_,_],_=>rfl) (fun _ _=>Rl2.len) (by decide) (fun f cdv A outer s H E hr=>⟨_,(s1 (zal (e_if (t_eq rfl hr (qn 0) (qv vs)) (vn 1) (zdU rfl (qn 1) (qv vi))))),fun B' xs r h=>?_⟩)
 obtain⟨x0,x1,rfl,h⟩:=h
 change (_:US) (endsV false r) ⟨B',[some (.val x0),some (.val x1)],none⟩
 obtain⟨n,most,rfl,rfl,rfl⟩:=h
 cases n with
 | zero=>
  simp only[word]
  walk_at "pv"
  rfl
 | succ n=>
  simp only[word]
  walk_at "pv"
  rfl
theorem zct:FnScope ["shape","most"] ["shape","most"] (defScope zaS):=⟨rfl,rfl,rfl,by decide +kernel,rfl,by decide +kernel,by decide +kernel⟩
theorem zcT {k:Nat} (D:Df K mg "is_too_small" zaS) (B:Bt mg):Kn P w K mg base (k+1) "is_too_small" (spV K false (Rl2 rSmall)):=by
 refine D.okV zct (fun _ _ _ _ _ _ us hl=>match us,hl with | [_,_],_=>rfl) (fun _ _=>Rl2.len) (by decide) (fun f cdv A outer s H E hr=>⟨_,(s1 (zal (e_lt (qv (zbd rfl B.len (qv (zaf rfl hr (qn 0) (qv vi))))) (qv (e_div (qn 1) (qv vi)))))),fun B' xs r h=>?_⟩)
 obtain⟨x0,x1,rfl,h⟩:=h
 change (_:US) (endsV false r) ⟨B',[some (.val x0),some (.val x1)],none⟩
 obtain⟨n,most,t,rfl,rfl,hm,few,rfl⟩:=h
 cases n with
 | zero=>
  change List Pr at t
  simp only[pvT]
  walk_at "pv"
  refine⟨by decide,decide_eq_decide.mpr ?_⟩
  rw[List.length_map]
  show _↔(t:List Pr).length<most / 2
  omega
 | succ n=>
  change List (Tr n) at t
  simp only[pvT]
  walk_at "pv"
  refine⟨by decide,decide_eq_decide.mpr ?_⟩
  rw[List.length_map,zaY]
  show _↔(t:List (Tr n)).length-1<most / 2
  omega
end
open PySem L2
def rShapes (x y z r:PV):Prop:=∃ (n most:Nat) (t:Tr n),x=.str (word n)∧y=.lst (thg n t)∧z=.int most∧KG n t∧many n t≤200∧r=.lst ((splitT most n t).map (pvT n))
def rPlace (x y r:PV):Prop:=∃ (l:List Pr) (p:Pr),x=.tup (l.map Pr.pv)∧y=p.pv∧l.length≤200∧(∀ q∈l,q.r.length≤900)∧p.r.length≤900∧r=.int (plc l p)
section
variable {P:Program}{w:World}{K:PySem.W.Frag}{mg:Str→Option Value}{base:Heap}{m:Nat}
theorem sc_shapes_of:FnScope ["word","things","most","half"] ["word","things","most"] (defScope zbE):=⟨rfl,rfl,rfl,by decide +kernel,rfl,by decide +kernel,by decide +kernel⟩
theorem zfd {k:Nat} (D:Df K mg "shapes_of" zbE) (B:Bt mg) (F_room_of:Kn P w K mg base k "room_of" (spV K false (Rl2 rRoom))) (F_shape_of:Kn P w K mg base k "shape_of" (spV K false (Rl2 rShape))):Kn P w K mg base (k+1) "shapes_of" (spV K true (Rl3 rShapes)):=by
 refine D.okV sc_shapes_of (fun _ _ _ _ _ _ us hl=>match us,hl with | [_,_,_],_=>rfl) (fun _ _=>Rl3.len) (by decide) (fun f cdv A outer s H E hr=>⟨_,(sc (s_if (t_le (qv (zbd rfl B.len (qn 1))) (qv (zap rfl F_room_of hr (ac (vn 0) (ac (vn 2) an))))) (s1 (zcu (el (ac (zap rfl F_shape_of hr (ac (vn 0) (ac (vn 1) an))) an)))) sn)
  (sc (zas (i:=3) sc_shapes_of.nd (e_div (qv (zbd rfl B.len (qn 1))) (qv vi)))
  (s1 (zcu (el (ac (zap rfl F_shape_of hr (ac (vn 0) (ac (vf (zdR rfl (qn 1) o_no (o_so (vn 3)))) an))) (ac (zap rfl F_shape_of hr (ac (vn 0) (ac (vf (zdR rfl (qn 1) (o_so (vn 3)) o_no)) an))) an))))))),fun B' xs r h=>?_⟩)
 obtain⟨x0,x1,x2,rfl,h⟩:=h
 change (_:US) (endsV true r) ⟨B',[some (.val x0),some (.val x1),some (.val x2),none],none⟩
 obtain⟨n,most,t,rfl,rfl,rfl,g,few,rfl⟩:=h
 walk_at "pv"
 have tl:=zby n t
 refine zaa _ ⟨n,most,rfl,rfl,rfl⟩ ?_
 walk_at "pv"
 rw[spl_eq,tl]
 refine zai (fun c=>?_) fun c=>?_
 ·have c':many n t≤rm n most:=by have:=of_decide_eq_true c;omega
  rw[if_pos c']
  walk_at "pv"
  refine zaa _ ⟨n,t,rfl,rfl,g,few,rfl⟩ ?_
  walk_at "pv"
 ·have c':¬ many n t≤rm n most:=by have:=of_decide_eq_false c;omega
  rw[if_neg c']
  walk_at "pv"
  obtain⟨k1,k2⟩:=kg_cut n (many n t / 2) g
  obtain⟨t1,t2⟩:=thg_cut n t (many n t / 2)
  obtain⟨m1,m2⟩:=many_cut n t (many n t / 2)
  have hh:((many n t:Nat):Int) / 2=((many n t / 2:Nat):Int):=by omega
  rw[tl,hh]
  refine⟨by decide,?_⟩
  rw[cutU (by omega),Int.toNat_natCast,← t1]
  refine zaa _ ⟨n,_,rfl,rfl,k1,by omega,rfl⟩ ?_
  walk_at "pv"
  rw[cutF (by omega),Int.toNat_natCast,← t2]
  refine zaa _ ⟨n,_,rfl,rfl,k2,by omega,rfl⟩ ?_
  walk_at "pv"
theorem sc_place_behind:FnScope ["pairs","pair","goal"] ["pairs","pair"] (defScope zaR):=⟨rfl,rfl,rfl,by decide +kernel,rfl,by decide +kernel,by decide +kernel⟩
theorem zcS {k:Nat} (D:Df K mg "place_behind" zaR) (B:Bt mg) (F_pair_rank:Kn P w K mg base k "pair_rank" (spV K false (Rl1 rPairRank))):Kn P w K mg base (k+1) "place_behind" (spV K false (Rl2 rPlace)):=by
 refine D.okV sc_place_behind (fun _ _ _ _ _ _ us hl=>match us,hl with | [_,_],_=>rfl) (fun _ _=>Rl2.len) (by decide) (fun f cdv A outer s H E hr=>⟨_,(sc (zas (i:=2) sc_place_behind.nd (zap rfl F_pair_rank hr (ac (vn 1) an)))
  (s1 (zal (zbd rfl B.len (qf (zci (N:=["one","goal"]) (k:=1) (ix:=[2]) cS rfl (i_n rfl 0) (fun _ _ _ _=>(g_n (i:=0) (by show(["one","goal"]:List Str).Nodup;decide +kernel))) (fun _ _ _ _=>(f_1 (t_cmp (.inr (.inl rfl)) rfl hr (qv (zap rfl F_pair_rank hr (ac (vn 0) an))) (qn 1)))) (fun _ _ _ _=>(vn 0)))))))),fun B' xs r h=>?_⟩)
 obtain⟨x0,x1,rfl,h⟩:=h
 change (_:US) (endsV false r) ⟨B',[some (.val x0),some (.val x1),none],none⟩
 obtain⟨l,p,rfl,rfl,few,hl,hp,rfl⟩:=h
 walk_at "pv"
 refine zaa _ ⟨p,rfl,hp,rfl⟩ ?_
 walk_at "pv"
 refine zfo l Pr.pv Pr.pv (fun q=>!plt p q) (by omega) (fun B x hx Rs Rn h1 h2=>?_) ?_
 ·walk_at "pv"
  refine zaa _ ⟨x,rfl,hl x hx,rfl⟩ ?_
  walk_at "pv"
  obtain⟨ok,ce⟩:=zfp (op:=.LtE) (.inr (.inl rfl)) x p
  refine zaa _ ⟨⟨3,by decide,dp_rkP x,dp_rkP p⟩,ok,rfl⟩ ?_
  rw[ce]
  show cif (!plt p x) _ _ _
  refine zai (fun c=>?_) fun c=>?_
  ·walk_at "pv"
   exact h1 _ c ⟨rfl,rfl⟩ rfl
  ·exact h2 _ c ⟨rfl,rfl⟩ rfl
 ·walk_at "pv"
  rw[List.length_map]
  rfl
def rPut (m:Nat) (x y z r:PV):Prop:=∃ (n most:Nat) (t:Tr n) (p:Pr),n<m∧x=pvT n t∧y=p.pv∧z=.int most∧3≤most∧most≤9∧Good n t∧Srt (flat n t)∧p∉flat n t∧Few (flat n t)∧p.r.length≤900∧r=.lst ((insT most p n t).map (pvT n))
theorem sc_put_beneath:FnScope ["shape","pair","most","things","place"] ["shape","pair","most"] (defScope zaK):=⟨rfl,rfl,rfl,by decide +kernel,rfl,by decide +kernel,by decide +kernel⟩
theorem zdH {k:Nat} (D:Df K mg "put_beneath" zaK) (B:Bt mg) (F_things_of:Kn P w K mg base k "things_of" (spV K true (Rl1 rThings))) (F_place_behind:Kn P w K mg base k "place_behind" (spV K false (Rl2 rPlace))) (F_shapes_of:Kn P w K mg base k "shapes_of" (spV K true (Rl3 rShapes))) (F_put_beneath:Kn P w K mg base k "put_beneath" (spV K true (Rl3 (rPut m)))):Kn P w K mg base (k+1) "put_beneath" (spV K true (Rl3 (rPut (m+1)))):=by
 refine D.okV sc_put_beneath (fun _ _ _ _ _ _ us hl=>match us,hl with | [_,_,_],_=>rfl) (fun _ _=>Rl3.len) (by decide) (fun f cdv A outer s H E hr=>⟨_,(sc (zas (i:=3) sc_put_beneath.nd (vf (zaJ rfl F_things_of hr (ac (vn 0) an))))
  (sc (zas (i:=4) sc_put_beneath.nd (zap rfl F_place_behind hr (ac (zaf rfl hr (qn 0) (qv vi)) (ac (vn 1) an))))
  (sc (s_if (t_eq rfl hr (qv (zaf rfl hr (qn 0) (qv vi))) (qv vs)) (s1 (zcu (zaJ rfl F_shapes_of hr (ac vs (ac (vf (zfj (qf (zfj (qf (zdR rfl (qn 3) o_no (o_so (vn 4)))) (qf (el (ac (vn 1) an))))) (qf (zdR rfl (qn 3) (o_so (vn 4)) o_no)))) (ac (vn 2) an)))))) sn)
  (s1 (zcu (zaJ rfl F_shapes_of hr (ac vs (ac (vf (zfj (qf (zfj (qf (zdR rfl (qn 3) o_no (o_so (vn 4)))) (qf (zaJ rfl F_put_beneath hr (ac (zaf rfl hr (qn 3) (qn 4)) (ac (vn 1) (ac (vn 2) an))))))) (qf (zdR rfl (qn 3) (o_so (zdU rfl (qn 4) (qv vi))) o_no)))) (ac (vn 2) an))))))))),fun B' xs r h=>?_⟩)
 obtain⟨x0,x1,x2,rfl,h⟩:=h
 change (_:US) (endsV true r) ⟨B',[some (.val x0),some (.val x1),some (.val x2),none,none],none⟩
 obtain⟨n,most,t,p,hn,rfl,rfl,rfl,m3,m9,g,s,hp,few,lp,er⟩:=h
 cases n with
 | zero=>
  change List Pr at t
  have few':Few t:=few
  have f1:=few'.1
  have s':Srt t:=s
  walk_at "pv"
  refine zaa _ ⟨0,t,rfl,by show t.length≤200;omega,rfl⟩ ?_
  simp only[pvT,thg]
  walk_at "pv"
  refine zaa _ ⟨t,p,rfl,rfl,by omega,few'.2,lp,rfl⟩ ?_
  walk_at "pv"
  have hi:=plc_le t p
  rw[cutU (by omega),cutF (by omega),Int.toNat_natCast,← List.map_take,← List.map_drop]
  refine⟨by simp;omega,by simp;omega,_,⟨0,most,(t.take (plc t p)++[p]++t.drop (plc t p):List Pr),rfl,?_,rfl,trivial,?_,rfl⟩,er.symm⟩
  ·show _=PV.lst (List.map Pr.pv _)
   rw[List.map_append,List.map_append];rfl
  ·show(t.take (plc t p)++[p]++t.drop (plc t p)).length≤200
   simp;omega
 | succ n=>
  change List (Tr n) at t
  have s':Srt (t.flatMap (flat n)):=s
  have few':Few (t.flatMap (flat n)):=few
  have f1:=few'.1
  have kf:=zbt g.2
  obtain⟨q1,q2⟩:=zdO g.2 few'
  obtain⟨hi,hb,ha⟩:=zbA (by have:=g.1;omega) g.2 s' p
  walk_at "pv"
  refine zaa _ ⟨n+1,t,rfl,by show t.length≤200;omega,rfl⟩ ?_
  have e0:insT most p (n+1) t=split (most+1) (t.take (plc (seps t) p)++insT most p n t[plc (seps t) p]++t.drop (plc (seps t) p+1)):=by
   show(match t[plc (seps t) p]? with | some k=>_ | none=>_)=_
   rw[List.getElem?_eq_getElem hi]
  rw[e0] at er
  simp only[pvT,thg]
  walk_at "pv"
  refine zaa _ ⟨seps t,p,rfl,rfl,q1,q2,lp,rfl⟩ ?_
  walk_at "pv"
  generalize plc (seps t) p=i at hi hb ha er
  have hk:=List.getElem_mem hi
  refine zaa _ (zck (by omega) (by rw[Int.toNat_natCast,List.getElem?_map,List.getElem?_eq_getElem hi];rfl)) ?_
  walk_at "pv"
  have nk:p∉flat n t[i]:=fun z=>hp (zcE hk z)
  obtain⟨i1,i2,i3⟩:=zdL m3 n t[i] (g.2 _ hk) (zaX hk s') nk
  refine zaa _ ⟨n,most,t[i],p,by omega,rfl,rfl,rfl,m3,m9,g.2 _ hk,zaX hk s',nk,zdP hk few',lp,rfl⟩ ?_
  walk_at "pv"
  rw[cutU (by omega),cutF (by omega),Int.toNat_natCast,show((i:Int)+1).toNat=i+1 by omega,← List.map_take,← List.map_drop]
  refine⟨by simp;omega,by simp;omega,_,⟨n+1,most,(t.take i++insT most p n t[i]++t.drop (i+1):List (Tr n)),rfl,?_,rfl,fun k hk=>?_,?_,rfl⟩,er.symm⟩
  ·show _=PV.lst (List.map (pvT n) _)
   rw[List.map_append,List.map_append]
  ·rcases List.mem_append.mp hk with hk | hk
   ·rcases List.mem_append.mp hk with hk | hk
    ·exact g.2 k (List.mem_of_mem_take hk)
    ·exact i2 k hk
   ·exact g.2 k (List.mem_of_mem_drop hk)
  ·show(t.take i++insT most p n t[i]++t.drop (i+1)).length≤200
   simp;omega
end
open PySem L2
def rMended (x y z r:PV):Prop:=∃ (n most i:Nat) (ks:List (Tr n)),x=.lst (ks.map (pvT n))∧y=.int i∧z=.int most∧most≤9∧i<ks.length∧2≤ks.length∧ks.length≤190∧(∀ k∈ks,KG n k∧many n k≤90)∧r=.lst ((mend most ks i).map (pvT n))
def rTake (m:Nat) (x y z r:PV):Prop:=∃ (n most:Nat) (t:Tr n) (p:Pr),n<m∧x=pvT n t∧y=p.pv∧z=.int most∧3≤most∧most≤9∧Good n t∧Srt (flat n t)∧Few (flat n t)∧p.r.length≤900∧r=pvT n (delT most p n t)
def rPairs (m:Nat) (x r:PV):Prop:=∃ (n:Nat) (t:Tr n),n<m∧x=pvT n t∧KG n t∧(flat n t).length≤90∧many n t≤90∧r=.lst ((flat n t).map Pr.pv)
section
variable {P:Program}{w:World}{K:PySem.W.Frag}{mg:Str→Option Value}{base:Heap}{m:Nat}
theorem sc_mended:FnScope ["kids","place","most","begin","two"] ["kids","place","most"] (defScope zdW):=⟨rfl,rfl,rfl,by decide +kernel,rfl,by decide +kernel,by decide +kernel⟩
theorem k_mended {k:Nat} (D:Df K mg "mended" zdW) (B:Bt mg) (F_is_too_small:Kn P w K mg base k "is_too_small" (spV K false (Rl2 rSmall))) (F_shapes_of:Kn P w K mg base k "shapes_of" (spV K true (Rl3 rShapes))) (F_things_of:Kn P w K mg base k "things_of" (spV K true (Rl1 rThings))):Kn P w K mg base (k+1) "mended" (spV K false (Rl3 rMended)):=by
 refine D.okV sc_mended (fun _ _ _ _ _ _ us hl=>match us,hl with | [_,_,_],_=>rfl) (fun _ _=>Rl3.len) (by decide) (fun f cdv A outer s H E hr=>⟨_,(sc (s_if (zbw (zbc rfl (qv (zap rfl F_is_too_small hr (ac (zaf rfl hr (qn 0) (qn 1)) (ac (vn 2) an)))))) (s1 (zal (vn 0))) sn)
  (sc (zas (i:=3) sc_mended.nd (e_max rfl B.max (qv vi) (qv (e_sub (qn 1) (qv vi)))))
  (sc (zas (i:=4) sc_mended.nd (vf (zdR rfl (qn 0) (o_so (vn 3)) (o_so (zdU rfl (qn 3) (qv vi))))))
  (s1 (zal (vf (zfj (qf (zfj (qf (zdR rfl (qn 0) o_no (o_so (vn 3)))) (qf (zaJ rfl F_shapes_of hr (ac (zaf rfl hr (qv (zaf rfl hr (qn 4) (qv vi))) (qv vi)) (ac (vf (zfj (qf (zaJ rfl F_things_of hr (ac (zaf rfl hr (qn 4) (qv vi)) an))) (qf (zaJ rfl F_things_of hr (ac (zaf rfl hr (qn 4) (qv vi)) an))))) (ac (vn 2) an))))))) (qf (zdR rfl (qn 0) (o_so (zdU rfl (qn 3) (qv vi))) o_no))))))))),fun B' xs r h=>?_⟩)
 obtain⟨x0,x1,x2,rfl,h⟩:=h
 change (_:US) (endsV false r) ⟨B',[some (.val x0),some (.val x1),some (.val x2),none,none],none⟩
 obtain⟨n,most,i,ks,rfl,rfl,rfl,m9,hi,h2,few,hk,er⟩:=h
 walk_at "pv"
 refine zaa _ (zck (by omega) (by rw[Int.toNat_natCast,List.getElem?_map,List.getElem?_eq_getElem hi];rfl)) ?_
 walk_at "pv"
 have hki:=hk _ (List.getElem_mem hi)
 unfold mend at er
 rw[List.getElem?_eq_getElem hi] at er
 dsimp only at er
 refine zaa _ ⟨n,most,ks[i],rfl,rfl,m9,by omega,rfl⟩ ?_
 walk_at "pv"
 refine zai (fun c=>?_) fun c=>?_
 ·obtain⟨b,hbi⟩:∃ b,i-1=b:=⟨_,rfl⟩
  have hb:b+1<ks.length:=by omega
  rw[if_pos c,hbi,List.getElem?_eq_getElem (show b<ks.length by omega),List.getElem?_eq_getElem hb] at er
  dsimp only at er
  walk_at "pv"
  have eb:(if (i:Int)-1 > 0 then (i:Int)-1 else 0)=(b:Int):=by split<;>omega
  simp only[eb]
  rw[show((b:Int)+2)=((b+2:Nat):Int) by omega,cutB (by omega) (by rw[List.length_map];omega),show b+2-b=2 by omega,two_of (by rw[List.length_map];exact hb),List.getElem_map,List.getElem_map]
  obtain⟨k1,k2⟩:=hk _ (List.getElem_mem (show b<ks.length by omega))
  obtain⟨j1,j2⟩:=hk _ (List.getElem_mem hb)
  refine zaa _ at_0 ?_
  walk_at "pv"
  refine zaa _ (ix_word _ _) ?_
  walk_at "pv"
  refine zaa _ ⟨n,_,rfl,by omega,rfl⟩ ?_
  walk_at "pv"
  refine zaa _ ⟨n,_,rfl,by omega,rfl⟩ ?_
  walk_at "pv"
  have l1:=zby n ks[b]
  have l2:=zby n ks[b+1]
  refine⟨by omega,?_⟩
  rw[← thg_cat]
  refine zaa _ ⟨n,most,_,rfl,rfl,rfl,kg_cat n k1 j1,by rw[many_cat];omega,rfl⟩ ?_
  walk_at "pv"
  have ls:(splitT most n (catT n ks[b] ks[b+1])).length≤2:=by rw[spl_eq];split<;>simp
  rw[cutU (by omega),Int.toNat_natCast,← List.map_take]
  refine⟨by simp;omega,?_⟩
  walk_at "pv"
  rw[show((b:Int)+2)=((b+2:Nat):Int) by omega,cutF (by omega),Int.toNat_natCast,← List.map_drop]
  refine⟨by simp;omega,?_⟩
  rw[er,List.map_append,List.map_append]
 ·rw[if_neg (by rw[c];simp)] at er
  walk_at "pv"
  exact er.symm
theorem sc_taken_beneath:FnScope ["shape","pair","most","things","place"] ["shape","pair","most"] (defScope zaA):=⟨rfl,rfl,rfl,by decide +kernel,rfl,by decide +kernel,by decide +kernel⟩
theorem zcG {k:Nat} (D:Df K mg "taken_beneath" zaA) (B:Bt mg) (F_things_of:Kn P w K mg base k "things_of" (spV K true (Rl1 rThings))) (F_place_behind:Kn P w K mg base k "place_behind" (spV K false (Rl2 rPlace))) (F_taken_beneath:Kn P w K mg base k "taken_beneath" (spV K false (Rl3 (rTake m)))) (F_shape_of:Kn P w K mg base k "shape_of" (spV K false (Rl2 rShape))) (F_mended:Kn P w K mg base k "mended" (spV K false (Rl3 rMended))):Kn P w K mg base (k+1) "taken_beneath" (spV K false (Rl3 (rTake (m+1)))):=by
 refine D.okV sc_taken_beneath (fun _ _ _ _ _ _ us hl=>match us,hl with | [_,_,_],_=>rfl) (fun _ _=>Rl3.len) (by decide) (fun f cdv A outer s H E hr=>⟨_,(sc (s_own (i:=3) sc_taken_beneath.nd (zaJ rfl F_things_of hr (ac (vn 0) an)))
  (sc (s_if (t_eq rfl hr (qv (zaf rfl hr (qn 0) (qv vi))) (qv vs)) (s1 (zal (zap rfl F_shape_of hr (ac vs (ac (vf (zci (N:=["one","pair"]) (k:=1) (ix:=[1]) cS rfl (i_n rfl 3) (fun _ _ _ _=>(g_n (i:=0) (by show(["one","pair"]:List Str).Nodup;decide +kernel))) (fun _ _ _ _=>(f_1 (t_ne rfl hr (qn 0) (qn 1)))) (fun _ _ _ _=>(vn 0)))) an))))) sn)
  (sc (zas (i:=4) sc_taken_beneath.nd (zap rfl F_place_behind hr (ac (zaf rfl hr (qn 0) (qv vi)) (ac (vn 1) an))))
  (sc (s_lput 3 (zap rfl F_taken_beneath hr (ac (zaf rfl hr (qn 3) (qn 4)) (ac (vn 1) (ac (vn 2) an)))) (vn 4))
  (s1 (zal (zap rfl F_shape_of hr (ac vs (ac (zap rfl F_mended hr (ac (vn 3) (ac (vn 4) (ac (vn 2) an)))) an))))))))),fun B' xs r h=>?_⟩)
 obtain⟨x0,x1,x2,rfl,h⟩:=h
 change (_:US) (endsV false r) ⟨B',[some (.val x0),some (.val x1),some (.val x2),none,none],none⟩
 obtain⟨n,most,t,p,hn,rfl,rfl,rfl,m3,m9,g,s,few,lp,er⟩:=h
 cases n with
 | zero=>
  change List Pr at t
  have few':Few t:=few
  have f1:=few'.1
  walk_at "pv"
  refine zaa _ ⟨0,t,rfl,by show t.length≤200;omega,rfl⟩ ?_
  simp only[pvT,thg]
  walk_at "pv"
  intro a
  refine zfo t Pr.pv Pr.pv (fun q=>decide (q≠p)) (by omega) (fun B x hx Rs Rn h1 h2=>?_) ?_
  ·walk_at "pv"
   refine zaa _ ⟨⟨2,by decide,zcW x,zcW p⟩,rfl⟩ ?_
   rw[zda,show(true^^decide (x=p))=decide (x≠p) by simp]
   refine zai (fun c=>?_) fun c=>?_
   ·walk_at "pv"
    exact h1 _ c ⟨rfl,rfl⟩ rfl
   ·exact h2 _ c ⟨rfl,rfl⟩ rfl
  ·walk_at "pv"
   refine⟨_,⟨0,(t.filter fun q=>decide (q≠p):List Pr),rfl,rfl,trivial,?_,rfl⟩,er.symm⟩
   show(t.filter fun q=>decide (q≠p)).length≤200
   have:=List.length_filter_le (fun q=>decide (q≠p)) t
   omega
 | succ n=>
  change List (Tr n) at t
  have s':Srt (t.flatMap (flat n)):=s
  have few':Few (t.flatMap (flat n)):=few
  have f1:=few'.1
  have kf:=zbt g.2
  obtain⟨q1,q2⟩:=zdO g.2 few'
  obtain⟨hi,hb,ha⟩:=zbA (by have:=g.1;omega) g.2 s' p
  walk_at "pv"
  refine zaa _ ⟨n+1,t,rfl,by show t.length≤200;omega,rfl⟩ ?_
  have e0:delT most p (n+1) t=mend most (t.set (plc (seps t) p) (delT most p n t[plc (seps t) p])) (plc (seps t) p):=by
   show(match t[plc (seps t) p]? with | some k=>_ | none=>_)=_
   rw[List.getElem?_eq_getElem hi]
  rw[e0] at er
  simp only[pvT,thg]
  walk_at "pv"
  intro a
  refine zaa _ ⟨seps t,p,rfl,rfl,q1,q2,lp,rfl⟩ ?_
  walk_at "pv"
  generalize plc (seps t) p=i at hi hb ha er
  have hk:=List.getElem_mem hi
  refine zaa _ (zck (by omega) (by rw[Int.toNat_natCast,List.getElem?_map,List.getElem?_eq_getElem hi];rfl)) ?_
  walk_at "pv"
  obtain⟨d1,d2⟩:=zfk m3 (p:=p) n t[i] (g.2 _ hk) (zaX hk s')
  refine zaa _ ⟨n,most,t[i],p,by omega,rfl,rfl,rfl,m3,m9,g.2 _ hk,zaX hk s',zdP hk few',lp,rfl⟩ ?_
  walk_at "pv"
  refine⟨_,i,rfl,rfl,by rw[List.length_map];exact hi,?_⟩
  rw[map_set']
  have hi':i<(t.set i (delT most p n t[i])).length:=by simpa using hi
  obtain⟨u1,u2,u3⟩:=mend_ok m3 hi' (by simpa using g.1) (by simpa using d2) (fun j k hj hk=>by
   rw[List.getElem?_set,if_neg (Ne.symm hj)] at hk
   exact g.2 k (List.mem_of_getElem? hk))
  have fd:(flat n (delT most p n t[i])).length≤90:=by
   rw[d1]
   have h1:=List.length_filter_le (fun q=>decide (q≠p)) (flat n t[i])
   have h2:=zdG hk
   omega
  have ku:∀ k∈t.set i (delT most p n t[i]),KG n k∧many n k≤90:=fun k hk'=>by
   rcases List.mem_or_eq_of_mem_set hk' with z | z
   ·have h1:=zcm (zbW (g.2 k z))
    have h2:=zdG z
    exact⟨zbW (g.2 k z),by omega⟩
   ·rw[z]
    have h1:=zcm (weak_kg d2)
    exact⟨weak_kg d2,by omega⟩
  walk_at "pv"
  refine zaa _ ⟨n,most,i,_,rfl,rfl,rfl,m9,hi',by simpa using g.1,by rw[List.length_set];omega,ku,rfl⟩ ?_
  walk_at "pv"
  refine⟨_,⟨n+1,(mend most (t.set i (delT most p n t[i])) i:List (Tr n)),rfl,rfl,u2,?_,rfl⟩,er.symm⟩
  show(mend most (t.set i (delT most p n t[i])) i).length≤200
  have h1:=zbt u2
  rw[u1,zar hi'] at h1
  rw[zar hi] at f1
  simp only[List.length_append,List.take_set_of_le (Nat.le_refl i),List.drop_set_of_lt (Nat.lt_succ_self i),List.getElem_set_self,Nat.succ_eq_add_one] at h1 f1
  omega
theorem sc_pairs_beneath:FnScope ["shape","found","kid"] ["shape"] (defScope zaB):=⟨rfl,rfl,rfl,by decide +kernel,rfl,by decide +kernel,by decide +kernel⟩
theorem zcH {k:Nat} (D:Df K mg "pairs_beneath" zaB) (B:Bt mg) (F_things_of:Kn P w K mg base k "things_of" (spV K true (Rl1 rThings))) (F_pairs_beneath:Kn P w K mg base k "pairs_beneath" (spV K true (Rl1 (rPairs m)))):Kn P w K mg base (k+1) "pairs_beneath" (spV K true (Rl1 (rPairs (m+1)))):=by
 refine D.okV sc_pairs_beneath (fun _ _ _ _ _ _ us hl=>match us,hl with | [_],_=>rfl) (fun _ _=>Rl1.len) (by decide) (fun f cdv A outer s H E hr=>⟨_,(sc (s_if (t_eq rfl hr (qv (zaf rfl hr (qn 0) (qv vi))) (qv vs)) (s1 (zcu (zaJ rfl F_things_of hr (ac (vn 0) an)))) sn)
  (sc (s_own (i:=1) sc_pairs_beneath.nd (el an))
  (sc (s_for PassesOwn.never rfl (iv rfl (zaf rfl hr (qn 0) (qv vi))) (g_n (i:=2) sc_pairs_beneath.nd)
  (s1 (zcf (e_ext rfl 1 (qf (zaJ rfl F_pairs_beneath hr (ac (vn 2) an)))))))
  (s1 (s_retO (i:=1)))))),fun B' xs r h=>?_⟩)
 obtain⟨x0,rfl,h⟩:=h
 change (_:US) (endsV true r) ⟨B',[some (.val x0),none,none],none⟩
 obtain⟨n,t,hn,rfl,g,few,fm,er⟩:=h
 cases n with
 | zero=>
  change List Pr at t
  walk_at "pv"
  simp only[pvT]
  walk_at "pv"
  exact⟨_,⟨0,t,rfl,by omega,rfl⟩,er.symm⟩
 | succ n=>
  change List (Tr n) at t
  have f1:(t.flatMap (flat n)).length≤90:=few
  have fm':t.length≤90:=fm
  have g':∀ k∈t,Good n k:=g
  simp only[pvT]
  walk_at "pv"
  intro a
  refine for_m t (pvT n) (fun dd A=>∃ o:Option Sl,A=⟨B',[some (.val (.tup [.str "node",.tup ((seps t).map Pr.pv),.tup (t.map (pvT n))])),some (.own a (.lst ((dd.flatMap (flat n)).map Pr.pv))),o],none⟩) ⟨_,rfl⟩ (fun _ _ _=>trivial) ?_ ?_
  ·rintro dd x r A2 e ⟨o,rfl⟩
   have hx:x∈t:=by rw[e];simp
   have lk:=zdG hx
   have ld:(dd.flatMap (flat n)).length≤90:=by rw[e,List.flatMap_append,List.length_append] at f1;omega
   walk_at "pv"
   refine zaa _ ⟨n,x,by omega,rfl,zbW (g' x hx),by omega,by have:=zcm (zbW (g' x hx));omega,rfl⟩ ?_
   walk_at "pv"
   refine⟨by rw[List.length_map,List.length_map];omega,some (.val (pvT n x)),?_⟩
   rw[List.flatMap_append,List.map_append]
   simp
  ·rintro A2 ⟨o,rfl⟩
   walk_at "pv"
   exact er.symm
end
open PySem L2
def Occ (most:Nat):(n:Nat)→Tr n→Prop
 | 0,(ps:List Pr)=>most / 2≤ps.length∧ps.length≤most
 | n+1,(ks:List (Tr n))=>most / 2+1≤ks.length∧ks.length≤most+1∧∀ k∈ks,Occ most n k
def OccT (most:Nat):(n:Nat)→Tr n→Prop
 | 0,(ps:List Pr)=>ps.length≤most
 | n+1,(ks:List (Tr n))=>ks.length≤most+1∧∀ k∈ks,Occ most n k
def OccW (most:Nat):(n:Nat)→Tr n→Prop
 | 0,(ps:List Pr)=>most / 2≤ps.length+1∧ps.length≤most
 | n+1,(ks:List (Tr n))=>most / 2≤ks.length∧ks.length≤most+1∧∀ k∈ks,Occ most n k
theorem Occ.t {most:Nat}:∀ {n:Nat}{t:Tr n},Occ most n t→OccT most n t
 | 0,_,h=>h.2
 | _+1,_,h=>h.2
theorem zaF {α:Type}{room:Nat}{xs ys:List α} (h:ys∈split room xs):(xs.length≤room→ys=xs)∧(room<xs.length→xs.length / 2≤ys.length∧ys.length≤(xs.length+1) / 2)∧∀ y∈ys,y∈xs:=by
 unfold split at h
 by_cases c:xs.length≤room
 ·rw[if_pos c,List.mem_singleton] at h
  subst h
  exact⟨fun _=>rfl,fun z=>by omega,fun y hy=>hy⟩
 ·rw[if_neg c] at h
  refine⟨fun z=>absurd z c,fun _=>?_,fun y hy=>?_⟩
  ·rcases List.mem_cons.mp h with rfl | h
   ·rw[List.length_take];omega
   ·rw[List.mem_singleton] at h
    subst h
    rw[List.length_drop];omega
  ·rcases List.mem_cons.mp h with rfl | h
   ·exact List.mem_of_mem_take hy
   ·rw[List.mem_singleton] at h
    subst h
    exact List.mem_of_mem_drop hy
theorem zei {α:Type}{room:Nat}{xs:List α} (h:(split room xs).length=2):room<xs.length:=by
 unfold split at h
 by_cases c:xs.length≤room
 ·rw[if_pos c] at h;simp at h
 ·omega
theorem zfK {most:Nat} (h3:3≤most){p:Pr}:∀ (n:Nat) (t:Tr n),Good n t→Srt (flat n t)→p∉flat n t→OccT most n t→(∀ k∈insT most p n t,OccT most n k)∧(Occ most n t→∀ k∈insT most p n t,Occ most n k)∧((insT most p n t).length=2→∀ k∈insT most p n t,Occ most n k)
 | 0,(ps:List Pr),g,s,hp,o=>by
  have s':Srt ps:=s
  have o':ps.length≤most:=o
  have e:insT most p 0 ps=split most (ins ps p):=by
   show split most (ps.take (plc ps p)++[p]++ps.drop (plc ps p))=_
   rw[ins_eq s']
  have l:=zcK (l:=ps) (p:=p)
  rw[e]
  refine⟨fun k hk=>?_,fun oc k hk=>?_,fun h k hk=>?_⟩
  ·obtain⟨a,b,_⟩:=zaF hk
   show List.length (α:=Pr) k≤most
   by_cases c:(ins ps p).length≤most
   ·rw[a c];exact c
   ·have:=b (by omega);omega
  ·obtain⟨a,b,_⟩:=zaF hk
   have oc':most / 2≤ps.length∧ps.length≤most:=oc
   show most / 2≤List.length (α:=Pr) k∧List.length (α:=Pr) k≤most
   by_cases c:(ins ps p).length≤most
   ·rw[a c];omega
   ·have:=b (by omega);omega
  ·obtain⟨a,b,_⟩:=zaF hk
   have c:=zei h
   show most / 2≤List.length (α:=Pr) k∧List.length (α:=Pr) k≤most
   have:=b c
   omega
 | n+1,(ks:List (Tr n)),g,s,hp,o=>by
  obtain⟨g1,g2⟩:=g
  have s':Srt (ks.flatMap (flat n)):=s
  have hp':p∉ks.flatMap (flat n):=hp
  obtain⟨o1,o2⟩:ks.length≤most+1∧∀ k∈ks,Occ most n k:=o
  obtain⟨hi,hb,ha⟩:=zbA (by omega) g2 s' p
  have e0:insT most p (n+1) ks=split (most+1) (ks.take (plc (seps ks) p)++insT most p n ks[plc (seps ks) p]++ks.drop (plc (seps ks) p+1)):=by
   show(match ks[plc (seps ks) p]? with | some k=>_ | none=>_)=_
   rw[List.getElem?_eq_getElem hi]
  rw[e0]
  generalize plc (seps ks) p=i at hi hb ha
  have mi:=List.getElem_mem hi
  have np:p∉flat n ks[i]:=fun z=>hp' (zcE mi z)
  obtain⟨_,j2,_⟩:=zfK h3 (p:=p) n ks[i] (g2 _ mi) (zaX mi s') np (o2 _ mi).t
  obtain⟨_,_,l3⟩:=zdL h3 (p:=p) n ks[i] (g2 _ mi) (zaX mi s') np
  have all:∀ k∈ks.take i++insT most p n ks[i]++ks.drop (i+1),Occ most n k:=fun k hk=>by
   rcases List.mem_append.mp hk with hk | hk
   ·rcases List.mem_append.mp hk with hk | hk
    ·exact o2 k (List.mem_of_mem_take hk)
    ·exact j2 (o2 _ mi) k hk
   ·exact o2 k (List.mem_of_mem_drop hk)
  have len:(ks.take i++insT most p n ks[i]++ks.drop (i+1)).length=ks.length-1+(insT most p n ks[i]).length:=by
   simp only[List.length_append,List.length_take,List.length_drop]
   omega
  generalize ks.take i++insT most p n ks[i]++ks.drop (i+1)=xs at all len
  refine⟨fun k hk=>?_,fun oc k hk=>?_,fun h k hk=>?_⟩
  ·obtain⟨a,b,c⟩:=zaF hk
   refine⟨?_,fun y hy=>all y (c y hy)⟩
   show List.length (α:=Tr n) k≤most+1
   by_cases d:xs.length≤most+1
   ·rw[a d];exact d
   ·have:=b (by omega);omega
  ·obtain⟨a,b,c⟩:=zaF hk
   have oc':most / 2+1≤ks.length:=oc.1
   have:most / 2+1≤List.length (α:=Tr n) k∧List.length (α:=Tr n) k≤most+1:=by
    by_cases d:xs.length≤most+1
    ·rw[a d];omega
    ·have:=b (by omega);omega
   exact⟨this.1,this.2,fun y hy=>all y (c y hy)⟩
  ·obtain⟨a,b,c⟩:=zaF hk
   have d:=zei h
   have:=b d
   exact⟨by show most / 2+1≤List.length (α:=Tr n) k;omega,by show List.length (α:=Tr n) k≤most+1;omega,fun y hy=>all y (c y hy)⟩
theorem cat_occ {most:Nat} (h3:3≤most):∀ (n:Nat) (a b:Tr n),(Occ most n a∧OccW most n b∧small most n b=true)∨(OccW most n a∧small most n a=true∧Occ most n b)→∀ k∈splitT most n (catT n a b),Occ most n k
 | 0,(a:List Pr),(b:List Pr),h,k,hk=>by
  have hk':k∈split most (a++b):=hk
  obtain⟨x,y,_⟩:=zaF hk'
  have l:(a++b).length=a.length+b.length:=List.length_append
  have h':most / 2≤a.length+b.length∧a.length+b.length≤most+most / 2:=by
   rcases h with ⟨h1,h2,h4⟩ | ⟨h1,h2,h4⟩
   ·have u1:most / 2≤a.length∧a.length≤most:=h1
    have u2:b.length<most / 2:=by simpa [small] using h4
    omega
   ·have u1:most / 2≤b.length∧b.length≤most:=h4
    have u2:a.length<most / 2:=by simpa [small] using h2
    omega
  show most / 2≤List.length (α:=Pr) k∧List.length (α:=Pr) k≤most
  by_cases c:(a++b).length≤most
  ·rw[x c];omega
  ·have:=y (by omega);omega
 | n+1,(a:List (Tr n)),(b:List (Tr n)),h,k,hk=>by
  have hk':k∈split (most+1) (a++b):=hk
  obtain⟨x,y,z⟩:=zaF hk'
  have l:(a++b).length=a.length+b.length:=List.length_append
  have h':(∀ k∈a++b,Occ most n k)∧most / 2+1≤a.length+b.length∧a.length+b.length≤most+1+most / 2:=by
   rcases h with ⟨h1,h2,h4⟩ | ⟨h1,h2,h4⟩
   ·have u1:most / 2+1≤a.length∧a.length≤most+1:=⟨h1.1,h1.2.1⟩
    have u2:b.length-1<most / 2:=by simpa [small] using h4
    exact⟨fun k hk=>(List.mem_append.mp hk).elim (h1.2.2 k) (h2.2.2 k),by omega,by omega⟩
   ·have u1:most / 2+1≤b.length∧b.length≤most+1:=⟨h4.1,h4.2.1⟩
    have u2:a.length-1<most / 2:=by simpa [small] using h2
    exact⟨fun k hk=>(List.mem_append.mp hk).elim (h1.2.2 k) (h4.2.2 k),by omega,by omega⟩
  have:most / 2+1≤List.length (α:=Tr n) k∧List.length (α:=Tr n) k≤most+1:=by
   by_cases c:(a++b).length≤most+1
   ·rw[x c];omega
   ·have:=y (by omega);omega
  exact⟨this.1,this.2,fun q hq=>h'.1 q (z q hq)⟩
theorem big_occ {most:Nat} (h3:3≤most):∀ {n:Nat}{t:Tr n},OccW most n t→small most n t=false→Occ most n t
 | 0,(ps:List Pr),h,c=>by
  have c':¬ ps.length<most / 2:=by simpa [small] using c
  exact⟨by omega,h.2⟩
 | n+1,(ks:List (Tr n)),h,c=>by
  have c':¬ ks.length-1<most / 2:=by simpa [small] using c
  refine⟨?_,h.2⟩
  show most / 2+1≤ks.length
  omega
theorem mend_occ {most:Nat} (h3:3≤most){n:Nat}{ks:List (Tr n)}{i:Nat} (hi:i<ks.length) (h2:2≤ks.length) (w:OccW most n ks[i]) (g:∀ (j:Nat) (k:Tr n),j≠i→ks[j]?=some k→Occ most n k) :
  (∀ k∈mend most ks i,Occ most n k)∧(mend most ks i).length≤ks.length∧ks.length≤(mend most ks i).length+1:=by
 unfold mend
 rw[List.getElem?_eq_getElem hi]
 dsimp only
 by_cases c:small most n ks[i]=true
 ·rw[if_pos c]
  have b1:i-1<ks.length:=by omega
  have b2:i-1+1<ks.length:=by omega
  rw[List.getElem?_eq_getElem b1,List.getElem?_eq_getElem b2]
  dsimp only
  have gw:(Occ most n ks[i-1]∧OccW most n ks[i-1+1]∧small most n ks[i-1+1]=true)∨(OccW most n ks[i-1]∧small most n ks[i-1]=true∧Occ most n ks[i-1+1]):=by
   by_cases z:i=0
   ·subst z
    exact .inr ⟨w,c,g 1 _ (by omega) (List.getElem?_eq_getElem b2)⟩
   ·have e:i-1+1=i:=by omega
    refine .inl ⟨g (i-1) _ (by omega) (List.getElem?_eq_getElem b1),?_⟩
    simp only[e]
    exact⟨w,c⟩
  refine⟨fun k hk=>?_,?_⟩
  ·rcases List.mem_append.mp hk with hk | hk
   ·rcases List.mem_append.mp hk with hk | hk
    ·obtain⟨j,hj,rfl⟩:=List.mem_iff_getElem.mp hk
     simp at hj
     exact g j _ (by omega) (by simp)
    ·exact cat_occ h3 n _ _ gw k hk
   ·obtain⟨j,hj,rfl⟩:=List.mem_iff_getElem.mp hk
    simp at hj
    exact g (i-1+2+j) _ (by omega) (by simp)
  ·have:(splitT most n (catT n ks[i-1] ks[i-1+1])).length=1∨(splitT most n (catT n ks[i-1] ks[i-1+1])).length=2:=by
    cases n with
    | zero=>exact zaU
    | succ n=>exact zaU
   simp only[List.length_append,List.length_take,List.length_drop]
   omega
 ·rw[if_neg c]
  have c':small most n ks[i]=false:=by simpa using c
  refine⟨fun k hk=>?_,by omega,by omega⟩
  obtain⟨j,hj,rfl⟩:=List.mem_iff_getElem.mp hk
  by_cases z:j=i
  ·subst z;exact big_occ h3 w c'
  ·exact g j _ z (List.getElem?_eq_getElem hj)
theorem fil1 {l:List Pr}{p:Pr} (s:Srt l):l.length≤(l.filter fun q=>decide (q≠p)).length+1:=by
 induction l with
 | nil=>simp
 | cons x l ih=>
  obtain⟨a,b⟩:=List.pairwise_cons.mp s
  by_cases e:x=p
  ·subst e
   have:l.filter (fun q=>decide (q≠x))=l:=List.filter_eq_self.mpr fun q hq=>decide_eq_true (pl.ne (a q hq)).symm
   rw[List.filter_cons,if_neg (by simp),this,List.length_cons]
   omega
  ·rw[List.filter_cons,if_pos (decide_eq_true e),List.length_cons,List.length_cons]
   have:=ih b
   omega
theorem delT_occ {most:Nat} (h3:3≤most){p:Pr}:∀ (n:Nat) (t:Tr n),Good n t→Srt (flat n t)→OccT most n t→OccT most n (delT most p n t)∧(Occ most n t→OccW most n (delT most p n t))
 | 0,(ps:List Pr),_,s,o=>by
  have o':ps.length≤most:=o
  have l1:=List.length_filter_le (fun q=>decide (q≠p)) ps
  have l2:=fil1 (p:=p) (show Srt ps from s)
  refine⟨?_,fun oc=>?_⟩
  ·show(ps.filter fun q=>decide (q≠p)).length≤most
   omega
  ·have oc':most / 2≤ps.length:=oc.1
   show most / 2≤(ps.filter fun q=>decide (q≠p)).length+1∧(ps.filter fun q=>decide (q≠p)).length≤most
   omega
 | n+1,(ks:List (Tr n)),g,s,o=>by
  obtain⟨g1,g2⟩:=g
  have s':Srt (ks.flatMap (flat n)):=s
  obtain⟨o1,o2⟩:ks.length≤most+1∧∀ k∈ks,Occ most n k:=o
  obtain⟨hi,hb,ha⟩:=zbA (by omega) g2 s' p
  have e0:delT most p (n+1) ks=mend most (ks.set (plc (seps ks) p) (delT most p n ks[plc (seps ks) p])) (plc (seps ks) p):=by
   show(match ks[plc (seps ks) p]? with | some k=>_ | none=>_)=_
   rw[List.getElem?_eq_getElem hi]
  rw[e0]
  generalize plc (seps ks) p=i at hi hb ha
  have mi:=List.getElem_mem hi
  obtain⟨_,j2⟩:=delT_occ h3 (p:=p) n ks[i] (g2 _ mi) (zaX mi s') (o2 _ mi).t
  have hi':i<(ks.set i (delT most p n ks[i])).length:=by simpa using hi
  obtain⟨m1,m2,m3⟩:=mend_occ h3 hi' (by simpa using g1) (by simpa using j2 (o2 _ mi)) (fun j k hj hk=>by
   rw[List.getElem?_set,if_neg (Ne.symm hj)] at hk
   exact o2 k (List.mem_of_getElem? hk))
  rw[List.length_set] at m2 m3
  refine⟨⟨by show List.length (mend most _ i)≤_;omega,m1⟩,fun oc=>⟨?_,?_,m1⟩⟩
  ·have oc':most / 2+1≤ks.length:=oc.1
   show most / 2≤List.length (mend most _ i)
   omega
  ·show List.length (mend most _ i)≤most+1
   omega
open PySem L2
theorem atI_map {ps:List Pr}{j:Nat} (h:j<ps.length):atI (ps.map Pr.pv) (j:Int)=some ps[j].pv:=by
 rw[zfq]
 simp [h]
abbrev Fs:=List (Str×PV)
def Mr0 (T:Fs→(PV→Fs→Prop)→Prop):MT:=fun xs fs P=>xs=[]∧T fs P
def Mr1 (T:PV→Fs→(PV→Fs→Prop)→Prop):MT:=fun xs fs P=>∃ x1,xs=[x1]∧T x1 fs P
def Mr2 (T:PV→PV→Fs→(PV→Fs→Prop)→Prop):MT:=fun xs fs P=>∃ x1 x2,xs=[x1,x2]∧T x1 x2 fs P
theorem Mr0.len {T:Fs→(PV→Fs→Prop)→Prop}{xs:List PV}{fs:Fs}{P:PV→Fs→Prop} (h:Mr0 T xs fs P):xs.length+1=1:=by obtain⟨rfl,_⟩:=h;rfl
theorem Mr1.len {T:PV→Fs→(PV→Fs→Prop)→Prop}{xs:List PV}{fs:Fs}{P:PV→Fs→Prop} (h:Mr1 T xs fs P):xs.length+1=2:=by obtain⟨_,rfl,_⟩:=h;rfl
theorem Mr2.len {T:PV→PV→Fs→(PV→Fs→Prop)→Prop}{xs:List PV}{fs:Fs}{P:PV→Fs→Prop} (h:Mr2 T xs fs P):xs.length+1=3:=by obtain⟨_,_,rfl,_⟩:=h;rfl
def tf (m:Int) (top:PV) (n:Int):Fs:=[("most",.int m),("top",top),("total",.int n)]
def TP (m:Nat) (ps:List Pr) (top:PV):Prop:=Few ps∧Srt ps∧((ps=[]∧top=.non)∨∃ (n:Nat) (t:Tr n),top=pvT n t∧Good n t∧OccT m n t∧flat n t=ps)
theorem pin_pr (p:Pr) (l:List Pr):pin p.pv (l.map Pr.pv)=decide (p∈l):=by
 unfold pin
 rw[List.any_map]
 induction l with
 | nil=>simp
 | cons q l ih=>
  rw[List.any_cons,ih]
  show(peq q.pv p.pv||_)=_
  rw[zda]
  by_cases h:q=p
  ·subst h;simp
  ·have h':¬ p=q:=fun e=>h e.symm
   simp [h,h']
theorem nr_pr (p:Pr):∀ c:OC,p.pv≠c.pv:=fun c z=>by cases c<;>cases z
theorem is_T {l:Nat}{t:Tr l}{z:PV}:gIs0 (pvT l t) .non z=(z=.bl false):=by cases l<;>rfl
theorem isN_T {l:Nat}{t:Tr l}{z:PV}:gIsN (pvT l t) .non z=(z=.bl true):=by cases l<;>rfl
theorem eq_leaf (t:List Pr):gEq false (pvT 0 t) (.tup [.str "leaf",.tup []]) (.bl t.isEmpty):=by
 refine⟨⟨4,by decide,dp_T 0 t,dp_T 0 ([]:List Pr)⟩,?_⟩
 cases t with
 | nil=>with_unfolding_all rfl
 | cons p t=>
  show PV.bl false=PV.bl (false^^(peq (.str "leaf") (.str "leaf")&&(peq (.tup ((p::t).map Pr.pv)) (.tup [])&&true)))
  rw[List.map_cons]
  simp [peq,peqs]
theorem eq_good {l:Nat}{t:Tr l} (g:Good l t) (hl:l≤6):gEq false (pvT l t) (.tup [.str "leaf",.tup []]) (.bl false):=by
 cases l with
 | zero=>
  have h:=eq_leaf t
  have e:List.isEmpty (α:=Pr) t=false:=List.isEmpty_eq_false_iff.mpr g
  rw[e] at h
  exact h
 | succ l=>
  refine⟨⟨2*(l+1)+4,by omega,dp_T _ t,Dp.up (dp_T 0 ([]:List Pr)) (by omega)⟩,?_⟩
  show PV.bl false=PV.bl (false^^(peq (.str "node") (.str "leaf")&&peqs [.tup ((seps (n:=l) t).map Pr.pv),.tup (List.map (pvT l) t)] [.tup []]))
  have:peq (.str "node") (.str "leaf")=false:=by decide +kernel
  rw[this]
  rfl
def rInit (x:PV) (fs:Fs) (P:PV→Fs→Prop):Prop:=∃ m:Nat,x=.int m∧3≤m∧m≤9∧fs=[]∧P .non (tf m .non 0)
def rHas (x:PV) (fs:Fs) (P:PV→Fs→Prop):Prop:=∃ (m:Nat) (n:Int) (top:PV) (ps:List Pr) (p:Pr),fs=tf m top n∧TP m ps top∧x=p.pv∧p.r.length≤900∧P (.bl (decide (p∈ps))) fs
def rMPut (x y:PV) (fs:Fs) (P:PV→Fs→Prop):Prop:=∃ (m:Nat) (n:Int) (top:PV) (ps:List Pr) (p:Pr),fs=tf m top n∧3≤m∧m≤9∧TP m ps top∧x=rowP p.r∧y=.int p.k∧p.r.length≤900∧p∉ps∧ps.length<90∧∀ top',TP m (ins ps p) top'→P .non (tf m top' (n+1))
def rMTake (x y:PV) (fs:Fs) (P:PV→Fs→Prop):Prop:=∃ (m:Nat) (n:Int) (top:PV) (ps:List Pr) (p:Pr),fs=tf m top n∧3≤m∧m≤9∧TP m ps top∧x=rowP p.r∧y=.int p.k∧p.r.length≤900∧p∈ps∧∀ top',TP m (ps.filter fun q=>decide (q≠p)) top'→P .non (tf m top' (n-1))
def rMPairs (fs:Fs) (P:PV→Fs→Prop):Prop:=∃ (m:Nat) (n:Int) (top:PV) (ps:List Pr),fs=tf m top n∧TP m ps top∧P (.lst (ps.map Pr.pv)) fs
def rMShape (fs:Fs) (P:PV→Fs→Prop):Prop:=∃ (m n:Int) (top:PV),fs=tf m top n∧P top fs
def rMMany (fs:Fs) (P:PV→Fs→Prop):Prop:=∃ (m n:Int) (top:PV),fs=tf m top n∧P (.int n) fs
theorem zdc {n:Nat}{t:Tr n} (g:Good n t) (f:Few (flat n t)):n<7:=by
 have h1:=zdM g
 have h2:=f.1
 by_cases h:n<7
 ·exact h
 ·have h3:2 ^ 7≤2 ^ n:=Nat.pow_le_pow_right (by decide) (by omega)
  omega
theorem tf_top {m n:Int}{t:PV}:(tf m t n).lookup ("top":Str)=some t:=by with_unfolding_all rfl
theorem tf_most {m n:Int}{t:PV}:(tf m t n).lookup ("most":Str)=some (.int m):=by with_unfolding_all rfl
theorem tf_total {m n:Int}{t:PV}:(tf m t n).lookup ("total":Str)=some (.int n):=by with_unfolding_all rfl
theorem tf_has {m n:Int}{t:PV}:(tf m t n).lookup ("has":Str)=none:=by with_unfolding_all rfl
theorem tf_len {m n:Int}{t:PV}:((tf m t n).length<1000)=True:=eq_true (show(_:Nat)<_ by simp only[tf];simp only[List.length_cons,List.length_nil];decide)
theorem tf_ptop {m n:Int}{t u:PV}:putP "top" u (tf m t n)=tf m u n:=by with_unfolding_all rfl
theorem tf_ptot {m n k:Int}{t:PV}:putP "total" (.int k) (tf m t n)=tf m t k:=by with_unfolding_all rfl
def tf1 (m:Int):Fs:=[("most",.int m)]
def tf2 (m:Int) (t:PV):Fs:=[("most",.int m),("top",t)]
theorem tf_0 {m:Int}:putP "most" (.int m) []=tf1 m:=rfl
theorem tf_1 {m:Int}{t:PV}:putP "top" t (tf1 m)=tf2 m t:=by with_unfolding_all rfl
theorem tf_2 {m n:Int}{t:PV}:putP "total" (.int n) (tf2 m t)=tf m t n:=by with_unfolding_all rfl
theorem lt_0:((0:Nat)<1000)=True:=eq_true (by decide)
theorem ite_T {a b:Prop}:(if True then a else b)=a:=if_pos trivial
theorem ite_F {a b:Prop}:(if False then a else b)=b:=if_neg id
theorem selfP_o {p C dx:Addr}{P:PV→List (Str×PV)→Prop}{r:PV}{fs:Fs}{B:Addr→Prop}{rho:List (Option Sl)}{S:Option SSt}:selfP p C dx P r ⟨B,some (.own p (.ins C dx fs))::rho,S⟩=P r fs:=propext ⟨fun⟨fs',e,h⟩=>by cases e;exact h,fun h=>⟨fs,rfl,h⟩⟩
theorem endsM_nx {p C dx:Addr}{P:PV→List (Str×PV)→Prop}{A:AS}:(endsM false p C dx P).nx A=selfP p C dx P .non A:=propext ⟨fun h=>h.2,fun h=>⟨rfl,h⟩⟩
theorem endsM_rt {p C dx:Addr}{P:PV→List (Str×PV)→Prop}{A:AS}{r:PV}:(endsM false p C dx P).rt r A=selfP p C dx P r A:=propext ⟨fun h=>h.2,fun h=>⟨rfl,h⟩⟩
theorem endsM_rf {p C dx:Addr}{P:PV→List (Str×PV)→Prop}{A:AS}{r:PV}:(endsM true p C dx P).rf r A=selfP p C dx P r A:=propext ⟨fun h=>h.2,fun h=>⟨rfl,h⟩⟩
theorem tf_l1 {m:Int}:((tf1 m).length<1000)=True:=eq_true (show(_:Nat)<_ by simp only[tf1];simp only[List.length_cons,List.length_nil];decide)
theorem tf_l2 {m:Int}{t:PV}:((tf2 m t).length<1000)=True:=eq_true (show(_:Nat)<_ by simp only[tf2];simp only[List.length_cons,List.length_nil];decide)
theorem tf_put {m n:Int}{t:PV}:(tf m t n).lookup ("put":Str)=none:=by with_unfolding_all rfl
theorem tf_take {m n:Int}{t:PV}:(tf m t n).lookup ("take":Str)=none:=by with_unfolding_all rfl
theorem tf_pairs {m n:Int}{t:PV}:(tf m t n).lookup ("pairs":Str)=none:=by with_unfolding_all rfl
theorem tf_shape {m n:Int}{t:PV}:(tf m t n).lookup ("shape":Str)=none:=by with_unfolding_all rfl
theorem tf_many {m n:Int}{t:PV}:(tf m t n).lookup ("many":Str)=none:=by with_unfolding_all rfl
local macro_rules | `(tactic| walk_at "pv") => `(tactic| try simp only [endsL, varS_o2, pkS_o2, pkS_p2, retO_o2, ↓uMeth_c, ↓methK_c, ↓uFld_c, ↓zez, ↓zed, ↓zee, ↓uMake_c, ↓zfu, ↓uLput_c, insO_o, sLL, sNL, sLN, sNN, gMax_i, tf_top, tf_most, tf_total, tf_has, tf_len, tf_ptop, tf_ptot, tf_0, tf_1, tf_2, tf_l1, tf_l2, lt_0, ite_T, ite_F, selfP_o, endsM_nx, endsM_rt, endsM_rf, is_T, isN_T, tf_put, tf_take, tf_pairs, tf_shape, tf_many, ↓uGnil_c, ↓uGv_c, ↓uGn_c, ↓uCallG_c, ↓callG_t, ↓callG_f, nm_v, nm_n, nm_0, argG_0, argG_v, argG_n, ownK_o, putR_n, reK_o, putR_v, putR_0, ↓endsG_nx, ↓endsG_rt, ↓outP_c, outC_n, outC_v, outC_o, ↓uPopAt_c, ↓uNext_c, ↓uSeq_c, ↓uIf_c, ↓uSet_c, ↓uOwn_c, ↓uDrop_c, ↓uRet_c, ↓uRetF_c, ↓uRetO_c, ↓zfv, ↓uVar_c, ↓uPk_c, ↓uC_c, ↓uNil_c, ↓uCons_c, ↓uTup_c, ↓uLst_c, ↓u2_c, ↓u2t_c, ↓uAnd_c, ↓uOr_c, ↓uNot_c, ↓uAndV_c, ↓uNotV_c, ↓uIfE_c, ↓uTru_c, ↓uInst_c, ↓u1_c, ↓gN_c, ↓uIt_c, ↓uItN_c, ↓uRng_c, ↓uFor_c, ↓uComp_c, ↓uYes_c, ↓uCall_c, ↓zfw, ↓uApp_c, ↓uRevM_c, ↓uExt_c, ↓zec, ↓uNo_c, ↓uSo_c, ↓uSl_c, ↓uNeg_c, ↓uChnT_c, ↓rtS_c, ↓take_c, ↓tr1c, ↓tr2c, ↓tr3c, ↓tr4c, put_c, frz_c, forget_c, pv_l, pv_d, varS_v, varS_o, pkS_v, pkS_o, pkS_p, gs0_n, itS_v, itS_o, itS_p, itK_l, itK_t, itK_s, intK_i, lstO_o, dicO_o, ownC_l, ownC_d, retO_o, soK_i, revK_l, extK_l, extK_t, endsV_e, endsV_f, endsS_e, endsS_f, rl1, rl2, rl3, rl4, pk_s, pk_i, gDict_l, ex1_e, ex1_e', ex1_a, ex1_a', ex1_a2, ex1_a3, exists_eq_left, exists_eq_left', exists_eq_right, exists_eq_right', cif_t, cif_f, cif_n, inn, caps, Sl.cap, List.replicate, List.map_cons, List.map_nil, List.cons_append, List.nil_append, Option.join_some, Option.map_some, List.getElem?_cons_zero, List.getElem?_cons_succ, List.getElem?_nil, List.set_cons_zero, List.set_cons_succ, true_and, and_true, and_self, eq_self_iff_true, Bool.false_eq_true, Bool.not_true, Bool.not_false, Option.some.injEq, PV.bl.injEq, PV.int.injEq, PV.str.injEq, PV.tup.injEq, PV.lst.injEq, Sl.own.injEq, Sl.val.injEq, OC.lst.injEq, OC.dic.injEq, List.cons.injEq, List.length_cons, List.length_nil, gAdd_i, gAdd_s, gAdd_t, gAdd_l, gCat_l, gI_i, gI0_i, gLen_t, gLen_l, gLen_s, gIxA_t, gIxA_l, gIxA_s, gIxA_d, gSl_t, gSl_l, gSl_s, gSlF_l, zfM, zfN, gList_t, gList_l, gInA_s, gInA_d, gInA_lm, gInA_tm, gLt_i, gLt_s, gLe_i, gLe_s, gIs_b, gIs_nn, gIs_tn, gIs_ln, gIs_in, gIs_sn, gIsN_nn, gIsN_tn, gIsN_ln, gIsN_in, gIsN_sn, gAll_m, gAny_m, gInt_i, gInt_b, gDix_d, gDin_d, gEq_s, gEq_i, tru_b, tru_i, tru_t, tru_l, tru_n, ty_ss, ty_tt, ty_ll, ty_ii, ty_bi, ty_st, ty_ts, at_0, at_1, at_2, at_3, at_4, Bool.false_xor, Bool.true_xor, Int.reduceBEq, Int.reduceLT, Int.reduceLE, Int.reduceAdd, decide_true, decide_false, Nat.reduceAdd, Nat.reduceLeDiff, Nat.reduceEqDiff, List.map_map, Function.comp_def])
section
variable {P:Program}{w:World}{K:PySem.W.Frag}{mg:Str→Option Value}{base:Heap}
theorem sc_init:FnScope ["self","most"] ["self","most"] (defScope zfH):=⟨rfl,rfl,rfl,by decide +kernel,rfl,by decide +kernel,by decide +kernel⟩
theorem km_init {k:Nat}{C:Addr} (D:DfM K C "__init__" "Tree.__init__" zfH) (B:Bt mg) (Cl:Cls K C) (NA_most:NoAttr K C "most") (NA_top:NoAttr K C "top") (NA_total:NoAttr K C "total") (C_LEAST_MOST:Gc K mg "LEAST_MOST" (.int 3)) (C_GREATEST_MOST:Gc K mg "GREATEST_MOST" (.int 9)) (F_is_whole:Kn P w K mg base k "is_whole" (spV K false (Rl1 rWhole))):KnM P w K mg base (k+1) C "__init__" (spM K C false (Mr1 rInit)):=by
 refine D.okM sc_init (fun _ _ _ _ _ _ us hl=>match us,hl with | [_,_],_=>rfl) (fun _ _ _=>Mr1.len) (by decide) (fun f cdv A outer s H E hr=>⟨_,(sc (s_if (PW.pt (t_or (zbw (zbc rfl (qv (zap rfl F_is_whole hr (ac (vn 1) an))))) (zbR (zbw (t_chn (op_le.or zbf) (op_le.or zbf) br_le br_le (qv (vg C_LEAST_MOST)) (qn 1) (qv (vg C_GREATEST_MOST))))))) (s1 zeR) sn)
  (sc (s_fld rfl 0 Cl NA_most (vn 1))
  (sc (s_fld rfl 0 Cl NA_top v0)
  (s1 (s_fld rfl 0 Cl NA_total vi))))),fun B' ad dx xs fs Q h=>?_⟩)
 obtain⟨x1,rfl,h⟩:=h
 change (_:US) (endsM false ad C dx Q) ⟨B',[some (.own ad (.ins C dx fs)),some (.val x1)],none⟩
 obtain⟨m,rfl,h3,h9,rfl,hP⟩:=h
 walk_at "pv"
 refine zaa _ ⟨m,rfl,rfl⟩ ?_
 walk_at "pv"
 refine zai (fun c=>?_) fun c=>absurd (of_decide_eq_false c) (by omega)
 walk_at "pv"
 refine zai (fun c=>?_) fun c=>absurd (of_decide_eq_false c) (by omega)
 walk_at "pv"
 exact hP
theorem sc_has:FnScope ["self","pair","shape"] ["self","pair"] (defScope m_has):=⟨rfl,rfl,rfl,by decide +kernel,rfl,by decide +kernel,by decide +kernel⟩
theorem km_has {k:Nat}{C:Addr} (D:DfM K C "has" "Tree.has" m_has) (B:Bt mg) (Cl:Cls K C) (NA_top:NoAttr K C "top") (F_place_behind:Kn P w K mg base k "place_behind" (spV K false (Rl2 rPlace))):KnM P w K mg base (k+1) C "has" (spM K C false (Mr1 rHas)):=by
 refine D.okM sc_has (fun _ _ _ _ _ _ us hl=>match us,hl with | [_,_],_=>rfl) (fun _ _ _=>Mr1.len) (by decide) (fun f cdv A outer s H E hr=>⟨_,(sc (zas (i:=2) sc_has.nd (zcV rfl 0 Cl NA_top))
  (sc (zeQ PassesOwn.never (PW.pt (t_and (t_isn (qn 2) (qv v0)) (zcX (t_eq rfl hr (qv (zaf rfl hr (qn 2) (qv vi))) (qv vs)))))
  (s1 (zas (i:=2) sc_has.nd (zaf rfl hr (qv (zaf rfl hr (qn 2) (qv vi))) (qv (zap rfl F_place_behind hr (ac (zaf rfl hr (qn 2) (qv vi)) (ac (vn 1) an))))))))
  (s1 (zal (e_and (e_isn (qn 2) (qv v0)) (e_one (e_inA rfl hr (qn 1) (qv (zaf rfl hr (qn 2) (qv vi)))))))))),fun B' ad dx xs fs Q h=>?_⟩)
 obtain⟨x1,rfl,h⟩:=h
 change (_:US) (endsM false ad C dx Q) ⟨B',[some (.own ad (.ins C dx fs)),some (.val x1),none],none⟩
 obtain⟨m,n,top,ps,p,rfl,tp,rfl,lp,hP⟩:=h
 walk_at "pv"
 obtain⟨few,srt,tp⟩:=tp
 refine⟨fun A=>∃ sh,A=⟨B',[some (.own ad (.ins C dx (tf m top n))),some (.val p.pv),some (.val sh)],none⟩∧((sh=.non∧p∉ps)∨∃ (n:Nat) (t:Tr n),sh=pvT n t∧n<7∧Good n t∧Srt (flat n t)∧Few (flat n t)∧(p∈flat n t↔p∈ps)),fun A=>match A.rho with | [_,_,some (.val sh)]=>lvF 7 sh | _=>0,⟨top,rfl,?_⟩,?_⟩
 ·rcases tp with ⟨rfl,rfl⟩ | ⟨n,t,rfl,g,oc,rfl⟩
  ·exact .inl ⟨rfl,by simp⟩
  ·exact .inr ⟨n,t,rfl,zdc g few,g,srt,few,Iff.rfl⟩
 rintro A1 ⟨sh,rfl,⟨rfl,np⟩ | ⟨l,t,rfl,hl,g,s,f,mem⟩⟩
 ·rw[decide_eq_false np] at hP
  walk_at "pv"
  exact hP
 ·cases l with
  | zero=>
   change List Pr at t
   simp only[pvT]
   walk_at "pv"
   refine zaa (.bl (decide (p∈ps))) ?_ ?_
   ·rw[gInA_t,pin_pr]
    refine⟨nr_pr p,⟨2,by decide,zcW p,fun q hq=>?_⟩,?_⟩
    ·obtain⟨q,_,rfl⟩:=List.mem_map.mp hq
     exact zcW q
    ·rw[Bool.false_xor]
     exact congrArg PV.bl (decide_eq_decide.mpr mem.symm)
   ·walk_at "pv"
    exact hP
  | succ l=>
   change List (Tr l) at t
   have s':Srt (t.flatMap (flat l)):=s
   have f':Few (t.flatMap (flat l)):=f
   obtain⟨q1,q2⟩:=zdO g.2 f'
   obtain⟨k1,k2,k3⟩:=zbA (by have:=g.1;omega) g.2 s' p
   simp only[pvT]
   walk_at "pv"
   refine zaa _ ⟨seps t,p,rfl,rfl,q1,q2,lp,rfl⟩ ?_
   walk_at "pv"
   refine zaa _ (show _=some (pvT l t[plc (seps t) p]) from zfq (by simp [k1])) ?_
   walk_at "pv"
   refine⟨⟨_,rfl,.inr ⟨l,t[plc (seps t) p],rfl,by omega,g.2 _ (List.getElem_mem k1),zaX (List.getElem_mem k1) s',zdP (List.getElem_mem k1) f',?_⟩⟩,?_⟩
   ·rw[← mem]
    show _↔p∈t.flatMap (flat l)
    rw[zar k1,List.mem_append,List.mem_append]
    refine⟨fun h=>.inl (.inr h),fun h=>?_⟩
    rcases h with (h | h) | h
    ·exact absurd rfl (k2 p h).2
    ·exact h
    ·have:=k3 p h
     rw[pl.ir] at this
     cases this
   ·have e1:=lvF_T 7 l t[plc (seps t) p] (g.2 _ (List.getElem_mem k1)) (by omega)
    have e2:=lvF_T 7 (l+1) t g (by omega)
    show lvF 7 (pvT l t[plc (seps t) p])<lvF 7 (pvT (l+1) t)
    omega
theorem sc_put:FnScope ["self","values","number","pair","found"] ["self","values","number"] (defScope m_put):=⟨rfl,rfl,rfl,by decide +kernel,rfl,by decide +kernel,by decide +kernel⟩
theorem km_put {k:Nat}{C:Addr} (D:DfM K C "put" "Tree.put" m_put) (B:Bt mg) (Cl:Cls K C) (NA_top:NoAttr K C "top") (NA_total:NoAttr K C "total") (NA_most:NoAttr K C "most") (M_has:KnM P w K mg base k C "has" (spM K C false (Mr1 rHas))) (F_put_beneath:Kn P w K mg base k "put_beneath" (spV K true (Rl3 (rPut 7)))) (F_shape_of:Kn P w K mg base k "shape_of" (spV K false (Rl2 rShape))):KnM P w K mg base (k+1) C "put" (spM K C false (Mr2 rMPut)):=by
 refine D.okM sc_put (fun _ _ _ _ _ _ us hl=>match us,hl with | [_,_,_],_=>rfl) (fun _ _ _=>Mr2.len) (by decide) (fun f cdv A outer s H E hr=>⟨_,(sc (zas (i:=3) sc_put.nd (et (ac (vn 1) (ac (vn 2) an))))
  (sc (s_if (zbc rfl (qv (zch rfl 0 Cl M_has hr (ac (vn 3) an)))) (s1 zeR) sn)
  (sc (zas (i:=4) sc_put.nd (vf (e_ifF (t_is (qv (zcV rfl 0 Cl NA_top)) (qv v0)) (el (ac (zap rfl F_shape_of hr (ac vs (ac (vf (el (ac (vn 3) an))) an))) an)) (zaJ rfl F_put_beneath hr (ac (zcV rfl 0 Cl NA_top) (ac (vn 3) (ac (zcV rfl 0 Cl NA_most) an)))))))
  (sc (s_fld rfl 0 Cl NA_top (e_if (t_eq rfl hr (qv (zbd rfl B.len (qn 4))) (qv vi)) (zaf rfl hr (qn 4) (qv vi)) (zap rfl F_shape_of hr (ac vs (ac (vn 4) an)))))
  (s1 (zfy (g:=fun a b=>a+b) in_add (fun a b H Q h=>⟨a,b,rfl,rfl,h⟩) rfl 0 Cl NA_total vi)))))),fun B' ad dx xs fs Q h=>?_⟩)
 obtain⟨x1,x2,rfl,h⟩:=h
 change (_:US) (endsM false ad C dx Q) ⟨B',[some (.own ad (.ins C dx fs)),some (.val x1),some (.val x2),none,none],none⟩
 obtain⟨m,n,top,ps,p,rfl,h3,h9,tp,rfl,rfl,lp,np,ll,hP⟩:=h
 walk_at "pv"
 refine⟨_,rfl,m,n,top,ps,p,rfl,tp,rfl,lp,?_⟩
 rw[decide_eq_false np]
 walk_at "pv"
 obtain⟨few,srt,tp⟩:=tp
 have few':Few (ins ps p):=⟨by rw[zcK];omega,fun q hq=>(ins_mem.mp hq).elim (fun e=>e▸lp) (few.2 q)⟩
 have srt':Srt (ins ps p):=ins_srt srt np
 rcases tp with ⟨rfl,rfl⟩ | ⟨l,t,rfl,g,oc,rfl⟩
 ·walk_at "pv"
  refine zaa _ ⟨0,([p]:List Pr),rfl,rfl,trivial,show(1:Nat)≤200 by decide,rfl⟩ ?_
  walk_at "pv"
  refine zai (fun c=>?_) fun c=>absurd c (by decide)
  walk_at "pv"
  exact hP _ ⟨few',srt',.inr ⟨0,([p]:List Pr),rfl,by simp [Good],(by show(1:Nat)≤m;omega),rfl⟩⟩
 ·walk_at "pv"
  refine zaa _ ⟨l,m,t,p,zdc g few,rfl,rfl,rfl,h3,h9,g,srt,np,few,lp,rfl⟩ ?_
  walk_at "pv"
  obtain⟨i1,i2,i3⟩:=zdL h3 (p:=p) l t g srt np
  obtain⟨q1,_,q3⟩:=zfK h3 (p:=p) l t g srt np oc
  rw[List.length_map]
  rcases i3 with i3 | i3
  ·rw[i3]
   obtain⟨t',e⟩:=List.length_eq_one_iff.mp i3
   rw[e] at i1 i2 q1 ⊢
   refine zai (fun c=>?_) fun c=>absurd c (by decide)
   walk_at "pv"
   exact hP _ ⟨few',srt',.inr ⟨l,t',rfl,i2 t' (by simp),q1 t' (by simp),by simpa using i1⟩⟩
  ·rw[i3]
   refine zai (fun c=>absurd c (by decide)) fun c=>?_
   walk_at "pv"
   refine zaa _ ⟨l+1,(insT m p l t:List (Tr l)),rfl,rfl,i2,show(insT m p l t).length≤200 by omega,rfl⟩ ?_
   walk_at "pv"
   exact hP _ ⟨few',srt',.inr ⟨l+1,(insT m p l t:List (Tr l)),rfl,⟨by omega,i2⟩,⟨(by show(insT m p l t).length≤m+1;omega),q3 i3⟩,i1⟩⟩
theorem sc_take:FnScope ["self","values","number","pair","shape"] ["self","values","number"] (defScope zfG):=⟨rfl,rfl,rfl,by decide +kernel,rfl,by decide +kernel,by decide +kernel⟩
theorem km_take {k:Nat}{C:Addr} (D:DfM K C "take" "Tree.take" zfG) (B:Bt mg) (Cl:Cls K C) (NA_top:NoAttr K C "top") (NA_total:NoAttr K C "total") (NA_most:NoAttr K C "most") (M_has:KnM P w K mg base k C "has" (spM K C false (Mr1 rHas))) (F_taken_beneath:Kn P w K mg base k "taken_beneath" (spV K false (Rl3 (rTake 7)))):KnM P w K mg base (k+1) C "take" (spM K C false (Mr2 rMTake)):=by
 refine D.okM sc_take (fun _ _ _ _ _ _ us hl=>match us,hl with | [_,_,_],_=>rfl) (fun _ _ _=>Mr2.len) (by decide) (fun f cdv A outer s H E hr=>⟨_,(sc (zas (i:=3) sc_take.nd (et (ac (vn 1) (ac (vn 2) an))))
  (sc (s_if (zbw (zbc rfl (qv (zch rfl 0 Cl M_has hr (ac (vn 3) an))))) (s1 zeR) sn)
  (sc (zas (i:=4) sc_take.nd (zap rfl F_taken_beneath hr (ac (zcV rfl 0 Cl NA_top) (ac (vn 3) (ac (zcV rfl 0 Cl NA_most) an)))))
  (sc (s_if (PW.pt (t_and (t_eq rfl hr (qv (zaf rfl hr (qn 4) (qv vi))) (qv vs)) (zcX (t_eq rfl hr (qv (zbd rfl B.len (qv (zaf rfl hr (qn 4) (qv vi))))) (qv vi))))) (s1 (zas (i:=4) sc_take.nd (zaf rfl hr (qv (zaf rfl hr (qn 4) (qv vi))) (qv vi)))) sn)
  (sc (s_fld rfl 0 Cl NA_top (e_if (t_eq rfl hr (qn 4) (qv (et (ac vs (ac (et an) an))))) v0 (vn 4)))
  (s1 (zfy (g:=fun a b=>a-b) in_sub (fun a b H Q h=>⟨a,b,rfl,rfl,h⟩) rfl 0 Cl NA_total vi))))))),fun B' ad dx xs fs Q h=>?_⟩)
 obtain⟨x1,x2,rfl,h⟩:=h
 change (_:US) (endsM false ad C dx Q) ⟨B',[some (.own ad (.ins C dx fs)),some (.val x1),some (.val x2),none,none],none⟩
 obtain⟨m,n,top,ps,p,rfl,h3,h9,tp,rfl,rfl,lp,np,hP⟩:=h
 walk_at "pv"
 refine⟨_,rfl,m,n,top,ps,p,rfl,tp,rfl,lp,?_⟩
 rw[decide_eq_true np]
 walk_at "pv"
 obtain⟨few,srt,tp⟩:=tp
 rcases tp with ⟨rfl,rfl⟩ | ⟨l,t,rfl,g,oc,rfl⟩
 ·cases np
 walk_at "pv"
 refine zaa _ ⟨l,m,t,p,zdc g few,rfl,rfl,rfl,h3,h9,g,srt,few,lp,rfl⟩ ?_
 walk_at "pv"
 obtain⟨d1,d2⟩:=zfk h3 (p:=p) l t g srt
 obtain⟨d3,_⟩:=delT_occ h3 (p:=p) l t g srt oc
 have few':Few ((flat l t).filter fun q=>decide (q≠p)):=⟨Nat.le_trans (List.length_filter_le ..) few.1,fun q hq=>few.2 q (List.mem_filter.mp hq).1⟩
 have srt':Srt ((flat l t).filter fun q=>decide (q≠p)):=srt.filter _
 have hl:=zdc g few
 generalize hps:((flat l t).filter fun q=>decide (q≠p))=qs at d1 few' srt' hP
 generalize delT m p l t=d at d1 d2 d3
 generalize htp:pvT l t=tp
 cases l with
 | zero=>
  change List Pr at d
  have d1':d=qs:=d1
  subst d1'
  have eL:=eq_leaf d
  simp only[pvT] at eL ⊢
  walk_at "pv"
  refine zaa _ eL ?_
  refine zai (fun c=>?_) fun c=>?_
  ·walk_at "pv"
   exact hP _ ⟨few',srt',.inl ⟨List.isEmpty_iff.mp c,rfl⟩⟩
  ·walk_at "pv"
   exact hP _ ⟨few',srt',.inr ⟨0,d,rfl,List.isEmpty_eq_false_iff.mp c,d3,rfl⟩⟩
 | succ l=>
  change List (Tr l) at d
  have d1':d.flatMap (flat l)=qs:=d1
  have d2':1≤d.length∧∀ k∈d,Good l k:=d2
  by_cases h1:d.length=1
  ·obtain⟨t',e⟩:=List.length_eq_one_iff.mp h1
   subst e
   have g':=d2'.2 t' (by simp)
   simp only[pvT]
   walk_at "pv"
   refine zai (fun c=>?_) fun c=>absurd c (by decide)
   walk_at "pv"
   refine zaa _ (eq_good g' (by omega)) ?_
   walk_at "pv"
   exact hP _ ⟨few',srt',.inr ⟨l,t',rfl,g',(d3.2 t' (by simp)).t,by simpa using d1'⟩⟩
  ·have g':Good (l+1) d:=⟨by omega,d2'.2⟩
   have eL:=eq_good g' (by omega)
   simp only[pvT] at eL ⊢
   walk_at "pv"
   rw[List.length_map]
   refine zai (fun c=>absurd (eq_of_beq c) (by omega)) fun c=>?_
   walk_at "pv"
   refine zaa _ eL ?_
   walk_at "pv"
   exact hP _ ⟨few',srt',.inr ⟨l+1,d,rfl,g',d3,d1'⟩⟩
theorem sc_pairs:FnScope ["self"] ["self"] (defScope zeZ):=⟨rfl,rfl,rfl,by decide +kernel,rfl,by decide +kernel,by decide +kernel⟩
theorem km_pairs {k:Nat}{C:Addr} (D:DfM K C "pairs" "Tree.pairs" zeZ) (B:Bt mg) (Cl:Cls K C) (NA_top:NoAttr K C "top") (F_pairs_beneath:Kn P w K mg base k "pairs_beneath" (spV K true (Rl1 (rPairs 7)))):KnM P w K mg base (k+1) C "pairs" (spM K C true (Mr0 rMPairs)):=by
 refine D.okM sc_pairs (fun _ _ _ _ _ _ us hl=>match us,hl with | [_],_=>rfl) (fun _ _ _=>Mr0.len) (by decide) (fun f cdv A outer s H E hr=>⟨_,(s1 (zcu (e_ifF (t_is (qv (zcV rfl 0 Cl NA_top)) (qv v0)) (el an) (zaJ rfl F_pairs_beneath hr (ac (zcV rfl 0 Cl NA_top) an))))),fun B' ad dx xs fs Q h=>?_⟩)
 obtain⟨rfl,h⟩:=h
 change (_:US) (endsM true ad C dx Q) ⟨B',[some (.own ad (.ins C dx fs))],none⟩
 obtain⟨m,n,top,ps,rfl,tp,hP⟩:=h
 walk_at "pv"
 obtain⟨few,srt,tp⟩:=tp
 rcases tp with ⟨rfl,rfl⟩ | ⟨l,t,rfl,g,oc,rfl⟩
 ·walk_at "pv"
  exact hP
 ·walk_at "pv"
  refine zaa _ ⟨l,t,zdc g few,rfl,zbW g,few.1,Nat.le_trans (zcm (zbW g)) few.1,rfl⟩ ?_
  walk_at "pv"
  exact hP
theorem sc_shape:FnScope ["self"] ["self"] (defScope zeY):=⟨rfl,rfl,rfl,by decide +kernel,rfl,by decide +kernel,by decide +kernel⟩
theorem km_shape {k:Nat}{C:Addr} (D:DfM K C "shape" "Tree.shape" zeY) (B:Bt mg) (Cl:Cls K C) (NA_top:NoAttr K C "top"):KnM P w K mg base (k+1) C "shape" (spM K C false (Mr0 rMShape)):=by
 refine D.okM sc_shape (fun _ _ _ _ _ _ us hl=>match us,hl with | [_],_=>rfl) (fun _ _ _=>Mr0.len) (by decide) (fun f cdv A outer s H E hr=>⟨_,(s1 (zal (zcV rfl 0 Cl NA_top))),fun B' ad dx xs fs Q h=>?_⟩)
 obtain⟨rfl,h⟩:=h
 change (_:US) (endsM false ad C dx Q) ⟨B',[some (.own ad (.ins C dx fs))],none⟩
 obtain⟨m,n,top,rfl,hP⟩:=h
 walk_at "pv"
 exact hP
theorem sc_many:FnScope ["self"] ["self"] (defScope m_many):=⟨rfl,rfl,rfl,by decide +kernel,rfl,by decide +kernel,by decide +kernel⟩
theorem km_many {k:Nat}{C:Addr} (D:DfM K C "many" "Tree.many" m_many) (B:Bt mg) (Cl:Cls K C) (NA_total:NoAttr K C "total"):KnM P w K mg base (k+1) C "many" (spM K C false (Mr0 rMMany)):=by
 refine D.okM sc_many (fun _ _ _ _ _ _ us hl=>match us,hl with | [_],_=>rfl) (fun _ _ _=>Mr0.len) (by decide) (fun f cdv A outer s H E hr=>⟨_,(s1 (zal (zcV rfl 0 Cl NA_total))),fun B' ad dx xs fs Q h=>?_⟩)
 obtain⟨rfl,h⟩:=h
 change (_:US) (endsM false ad C dx Q) ⟨B',[some (.own ad (.ins C dx fs))],none⟩
 obtain⟨m,n,top,rfl,hP⟩:=h
 walk_at "pv"
 exact hP
end
open PySem L2
structure WE (X:Cx) (e:Expr) (t:TE):Prop where
 out:PE X e t
structure WA (X:Cx) (es:List Expr) (t:TA):Prop where
 out:PA X es t
structure WS (X:Cx) (st:Stmt) (t:TS):Prop where
 out:PS X st t
structure WSs (X:Cx) (st:List Stmt) (t:TS):Prop where
 out:PSs X st t
section
variable {X:Cx}{K:PySem.W.Frag}{e tg iter:Expr}{es:List Expr}{st:Stmt}{rest body:List Stmt}{ue:UE}{ua:UA}{u w:US}{ui:UI}{g:UG}{pos:Pos}
theorem vi_w {i:Int} {j}:WE X (.Constant (.int i) j pos) (liftV K (uC (.int i))):=⟨vi⟩
theorem vs_w {i:Str} {j}:WE X (.Constant (.str i) j pos) (liftV K (uC (.str i))):=⟨vs⟩
theorem v0_w {j}:WE X (.Constant .none j pos) (liftV K (uC .non)):=⟨v0⟩
theorem an_w:WA X [] (liftA K uNil):=⟨an⟩
theorem ac_w (h1:WE X e (liftV K ue)) (h2:WA X es (liftA K ua)) (hs:PySem.starEach (e::es) X.env=(false,PySem.eval e X.env)::PySem.starEach es X.env:=by rfl):WA X (e::es) (liftA K (uCons ue ua)):=⟨ac h1.out h2.out hs⟩
theorem el_w (h:WA X es (liftA K ua)):WE X (.List es pos) (liftV K (uLst ua)):=⟨vf (el h.out)⟩
theorem set_w {i:Nat}{x:Str}{pos':Pos} (hN:X.N.Nodup) (he:WE X e (liftV K ue)) (hi:X.N[i]?=some x:=by rfl) (hx:Loc X.env.scope x:=by first | exact Or.inl rfl | exact Or.inr rfl) (hs:PySem.swapsWith e (some (.Name x pos')) pos.line X.env=pure false:=by rfl)
  (hf:X.fn x=true∨X.env.scope.names.lookup x=some .local:=by first | exact .inl rfl | exact .inr rfl | assumption):WS X (.Assign [.Name x pos'] e pos) (liftS K (uSet i ue)):=⟨zas hN he.out hi hx hs hf⟩
theorem sc_w (h1:WS X st (liftS K u)) (h2:PSs X rest (liftS K w)):WSs X (st::rest) (liftS K (uSeq u w)):=⟨sc h1.out h2⟩
theorem for_w (hp:PassesOwn (model X.prog X.w) X.A X.env X.xe) (hc:X.calm=true) (hi:PI X tg iter (liftI K ui)) (hg:PG X tg (liftG K g)) (hb:WSs X body (liftS K u)) (hs:∀ x,PySem.foldedSetIterable iter X.env x=pure x:=by intro _;rfl) :
  PS X (.For tg iter body [] pos) (liftS K (uFor ui g u)):=s_for hp hc hi hg hb.out hs
end
theorem some_vl {r:Int} (h0:0≤r) (h1:r<11):∃ x:Vl,atI [PV.int 0,PV.int 1,PV.int 2,PV.str (Str.ofString "a"),PV.non,PV.int (-1),PV.str (Str.ofString ""),PV.int (10 ^ Int.toNat 29),PV.str (Str.ofString "B"),PV.str (Str.ofString "10"),PV.str (Str.ofString "A b")] r=some x.pv:=by
 have h:r=0∨r=1∨r=2∨r=3∨r=4∨r=5∨r=6∨r=7∨r=8∨r=9∨r=10:=by omega
 rcases h with rfl | rfl | rfl | rfl | rfl | rfl | rfl | rfl | rfl | rfl | rfl
 ·exact⟨.i 0,rfl⟩
 ·exact⟨.i 1,rfl⟩
 ·exact⟨.i 2,rfl⟩
 ·exact⟨.s "a",rfl⟩
 ·exact⟨.n,rfl⟩
 ·exact⟨.i (-1),rfl⟩
 ·exact⟨.s "",rfl⟩
 ·exact⟨.i (10 ^ Int.toNat 29),rfl⟩
 ·exact⟨.s "B",rfl⟩
 ·exact⟨.s "10",rfl⟩
 ·exact⟨.s "A b",rfl⟩
def rW (m:Nat) (x y z r:PV):Prop:=∃ (n most:Nat) (t:Tr n) (b:Bool),n<m∧x=pvT n t∧y=.int most∧z=.bl b∧3≤most∧most≤9∧Good n t∧Srt (flat n t)∧Few (flat n t)∧OccT most n t∧(b=false→Occ most n t)∧r=.tup [.lst ((flat n t).map Pr.pv),.int n]
section
variable {P:Program}{w:World}{K:PySem.W.Frag}{mg:Str→Option Value}{base:Heap}{m:Nat}
theorem zdp:FnScope ["_law_thing"] ["_law_thing"] (defScope zbl):=⟨rfl,rfl,rfl,by decide +kernel,rfl,by decide +kernel,by decide +kernel⟩
theorem zex {k:Nat} (D:Df K mg "_law_order" zbl) (B:Bt mg):Kn P w K mg base (k+1) "_law_order" (spV K false (Rl1 rRank)):=by
 refine D.okV zdp (fun _ _ _ _ _ _ us hl=>match us,hl with | [_],_=>rfl) (fun _ _=>Rl1.len) (by decide) (fun f cdv A outer s H E hr=>⟨_,(sc (s_if (t_is (qn 0) (qv v0)) (s1 (zal (et (ac vi (ac vi an))))) sn)
  (s1 (zal (zaf rfl hr (qf (el (ac (et (ac vi (ac (vn 0) an))) (ac (et (ac vi (ac (vn 0) an))) an)))) (qv (e_int B.int (qv (zbb .str rfl B.isinstance B.str PyProof.Rows.boot_str (qn 0))))))))),fun B' xs r h=>?_⟩)
 obtain⟨x0,rfl,h⟩:=h
 change (_:US) (endsV false r) ⟨B',[some (.val x0)],none⟩
 obtain⟨v,rfl,rfl⟩:=h
 cases v with
 | n=>
  simp only[Vl.pv,Vl.rk]
  walk_at "pv"
 | i x=>
  simp only[Vl.pv,Vl.rk]
  walk_at "pv"
  refine zaa false rfl ?_
  walk_at "pv"
  exact⟨_,rfl,rfl⟩
 | s x=>
  simp only[Vl.pv,Vl.rk]
  walk_at "pv"
  exact⟨_,rfl,rfl⟩
theorem zbM:FnScope ["_law_pair_here"] ["_law_pair_here"] (defScope zaD):=⟨rfl,rfl,rfl,by decide +kernel,rfl,by decide +kernel,by decide +kernel⟩
theorem zbU {k:Nat} (D:Df K mg "_law_pair_order" zaD) (B:Bt mg) (F__law_order:Kn P w K mg base k "_law_order" (spV K false (Rl1 rRank))):Kn P w K mg base (k+1) "_law_pair_order" (spV K false (Rl1 rPairRank)):=by
 refine D.okV zbM (fun _ _ _ _ _ _ us hl=>match us,hl with | [_],_=>rfl) (fun _ _=>Rl1.len) (by decide) (fun f cdv A outer s H E hr=>⟨_,(s1 (zal (et (ac (zbZ rfl B.tuple (qf (zci (N:=["_law_thing"]) (k:=1) (ix:=[]) cS0 rfl (iv rfl (zaf rfl hr (qn 0) (qv vi))) (fun _ _ _ _=>(g_n (i:=0) (by show(["_law_thing"]:List Str).Nodup;decide +kernel))) (fun _ _ _ _=>f_0) (fun _ _ _ _=>(zap rfl F__law_order hr (ac (vn 0) an)))))) (ac (zaf rfl hr (qn 0) (qv vi)) an))))),fun B' xs r h=>?_⟩)
 obtain⟨x0,rfl,h⟩:=h
 change (_:US) (endsV false r) ⟨B',[some (.val x0)],none⟩
 obtain⟨p,rfl,lp,rfl⟩:=h
 simp only[Pr.pv,rkP,rowP,rkR]
 walk_at "pv"
 refine zeF p.r Vl.pv Vl.rk (by omega) (fun B x hx R hR=>?_) ?_
 ·walk_at "pv"
  refine zaa _ ⟨x,rfl,rfl⟩ ?_
  walk_at "pv"
  exact hR _ ⟨rfl,rfl⟩ rfl
 ·walk_at "pv"
theorem zdo:FnScope ["_law_found"] ["_law_found"] (defScope zbk):=⟨rfl,rfl,rfl,by decide +kernel,rfl,by decide +kernel,by decide +kernel⟩
theorem zew {k:Nat} (D:Df K mg "_law_whole" zbk) (B:Bt mg):Kn P w K mg base (k+1) "_law_whole" (spV K false (Rl1 rWhole)):=by
 refine D.okV zdo (fun _ _ _ _ _ _ us hl=>match us,hl with | [_],_=>rfl) (fun _ _=>Rl1.len) (by decide) (fun f cdv A outer s H E hr=>⟨_,(s1 (zal (e_and (zbb .int rfl B.isinstance B.int PyProof.Rows.boot_int (qn 0)) (e_one (e_not (zbb .bool rfl B.isinstance B.bool PyProof.Rows.boot_bool (qn 0))))))),fun B' xs r h=>?_⟩)
 obtain⟨x0,rfl,h⟩:=h
 change (_:US) (endsV false r) ⟨B',[some (.val x0)],none⟩
 obtain⟨i,rfl,rfl⟩:=h
 walk_at "pv"
end
open PySem L2
def kidV (n:Nat) (k:Tr n):PV:=.tup [.lst ((flat n k).map Pr.pv),.int n]
theorem dp_ps (ps:List Pr):Dp 3 (.lst (ps.map Pr.pv)):=L2.dp_l fun x hx=>by
 obtain⟨p,_,rfl⟩:=List.mem_map.mp hx
 exact zcW p
theorem dp_kid (n:Nat) (k:Tr n):Dp 4 (kidV n k):=dp_t fun x hx=>by
 simp only[List.mem_cons,List.not_mem_nil,or_false] at hx
 rcases hx with rfl | rfl
 ·exact dp_ps _
 ·exact dp_int _ _
theorem non_kids {n:Nat} (t:List (Tr n)):gInA false .non (.lst (t.map (kidV n))) (.bl false):=by
 rw[gInA_l]
 refine⟨fun c z=>(by cases c<;>cases z),⟨4,by decide,dp_non _,fun x hx=>?_⟩,?_⟩
 ·obtain⟨p,_,rfl⟩:=List.mem_map.mp hx
  exact dp_kid n p
 ·rw[Bool.false_xor]
  refine congrArg PV.bl (Eq.symm ?_)
  unfold pin
  rw[List.any_map,List.any_eq_false]
  intro x _ z
  simp [kidV,peq] at z
theorem fst_at {n:Nat}{k:Tr n} (g:Good n k):atI ((flat n k).map Pr.pv) 0=some (fst n k).pv:=by
 unfold fst
 cases e:flat n k with
 | nil=>exact absurd e (zbg g)
 | cons p r=>rw[List.map_cons,at_0];rfl
section
variable {P:Program}{w:World}{K:PySem.W.Frag}{mg:Str→Option Value}{base:Heap}{m:Nat}
theorem sc__law_walked:FnScope ["_law_shape","_law_most","_law_is_top","_law_kids","_law_found","_law_kid"] ["_law_shape","_law_most","_law_is_top"] (defScope zaL):=⟨rfl,rfl,rfl,by decide +kernel,rfl,by decide +kernel,by decide +kernel⟩
theorem zdI {k:Nat} (D:Df K mg "_law_walked" zaL) (B:Bt mg) (F__law_walked:Kn P w K mg base k "_law_walked" (spV K false (Rl3 (rW m)))):Kn P w K mg base (k+1) "_law_walked" (spV K false (Rl3 (rW (m+1)))):=by
 refine D.okV sc__law_walked (fun _ _ _ _ _ _ us hl=>match us,hl with | [_,_,_],_=>rfl) (fun _ _=>Rl3.len) (by decide) (fun f cdv A outer s H E hr=>⟨_,(sc (s_if (PW.pt (t_or (zbw (zbc rfl (qv (zbb .tuple rfl B.isinstance B.tuple PyProof.Rows.boot_tuple (qn 0))))) (t_or (t_lt (qv (zbd rfl B.len (qn 0))) (qv vi)) (zbR (zbw (zbc rfl (qv (zbb .tuple rfl B.isinstance B.tuple PyProof.Rows.boot_tuple (qv (zaf rfl hr (qn 0) (qv vi))))))))))) (s1 (zal v0)) sn)
  (sc (s_if (PW.pt (t_or (t_gt (qv (zbd rfl B.len (qv (zaf rfl hr (qn 0) (qv vi))))) (qn 1)) (zbR (PW.pt (t_and (zbw (zbc rfl (qn 2))) (zcX (t_lt (qv (zbd rfl B.len (qv (zaf rfl hr (qn 0) (qv vi))))) (qv (e_div (qn 1) (qv vi)))))))))) (s1 (zal v0)) sn)
  (sc (s_if (t_eq rfl hr (qv (zaf rfl hr (qn 0) (qv vi))) (qv vs)) (sc (s_if (PW.pt (t_or (t_ne rfl hr (qv (zbd rfl B.len (qn 0))) (qv vi)) (zbR (t_eq rfl hr (qv (zbd rfl B.len (qv (zaf rfl hr (qn 0) (qv vi))))) (qv vi))))) (s1 (zal v0)) sn)
  (s1 (zal (et (ac (vf (e_list rfl B.list (qv (zaf rfl hr (qn 0) (qv vi))))) (ac vi an)))))) sn)
  (sc (s_if (PW.pt (t_or (t_ne rfl hr (qv (zaf rfl hr (qn 0) (qv vi))) (qv vs)) (t_or (t_ne rfl hr (qv (zbd rfl B.len (qn 0))) (qv vi)) (zbR (zbw (zbc rfl (qv (zbb .tuple rfl B.isinstance B.tuple PyProof.Rows.boot_tuple (qv (zaf rfl hr (qn 0) (qv vi))))))))))) (s1 (zal v0)) sn)
  (sc (s_if (PW.pt (t_or (t_eq rfl hr (qv (zbd rfl B.len (qv (zaf rfl hr (qn 0) (qv vi))))) (qv vi)) (zbR (t_ne rfl hr (qv (zbd rfl B.len (qv (zaf rfl hr (qn 0) (qv vi))))) (qv (zdU rfl (qv (zbd rfl B.len (qv (zaf rfl hr (qn 0) (qv vi))))) (qv vi))))))) (s1 (zal v0)) sn)
  (sc (zas (i:=3) sc__law_walked.nd (vf (zci (N:=["_law_kid","_law_most"]) (k:=1) (ix:=[1]) cS rfl (iv rfl (zaf rfl hr (qn 0) (qv vi))) (fun _ _ _ _=>(g_n (i:=0) (by show(["_law_kid","_law_most"]:List Str).Nodup;decide +kernel))) (fun _ _ _ _=>f_0) (fun _ _ _ _=>(zap rfl F__law_walked hr (ac (vn 0) (ac (vn 1) (ac vb an))))))))
  (sc (s_if (PW.pt (t_or (t_inA rfl hr (qv v0) (qn 3)) (zbR (t_ne rfl hr (qf (zci (N:=["_law_kid","_law_kids"]) (k:=1) (ix:=[3]) cS rfl (i_n rfl 3) (fun _ _ _ _=>(g_n (i:=0) (by show(["_law_kid","_law_kids"]:List Str).Nodup;decide +kernel))) (fun _ _ _ _=>(f_1 (t_ne rfl hr (qv (zaf rfl hr (qn 0) (qv vi))) (qv (zaf rfl hr (qv (zaf rfl hr (qn 1) (qv vi))) (qv vi)))))) (fun _ _ _ _=>(vn 0)))) (qf (el an)))))) (s1 (zal v0)) sn)
  (sc (s_if (t_ne rfl hr (qf (zci (N:=["_law_kid"]) (k:=1) (ix:=[]) cS0 rfl (iv rfl (e_sl rfl (qn 3) (o_so vi) o_no)) (fun _ _ _ _=>(g_n (i:=0) (by show(["_law_kid"]:List Str).Nodup;decide +kernel))) (fun _ _ _ _=>f_0) (fun _ _ _ _=>(zaf rfl hr (qv (zaf rfl hr (qn 0) (qv vi))) (qv vi))))) (qf (e_list rfl B.list (qv (zaf rfl hr (qn 0) (qv vi)))))) (s1 (zal v0)) sn)
  (sc (zas (i:=4) sc__law_walked.nd (vf (el an)))
  (sc (s_for PassesOwn.never rfl (i_n rfl 3) (g_n (i:=5) sc__law_walked.nd)
  (s1 (zas (i:=4) sc__law_walked.nd (zdU rfl (qn 4) (qv (zaf rfl hr (qn 5) (qv vi)))))))
  (s1 (zal (et (ac (vn 4) (ac (zdU rfl (qv (zaf rfl hr (qv (zaf rfl hr (qn 3) (qv vi))) (qv vi))) (qv vi)) an))))))))))))))),fun B' xs r h=>?_⟩)
 obtain⟨x0,x1,x2,rfl,h⟩:=h
 change (_:US) (endsV false r) ⟨B',[some (.val x0),some (.val x1),some (.val x2),none,none,none],none⟩
 obtain⟨n,most,t,b,hn,rfl,rfl,rfl,h3,h9,g,s,few,oc,oc2,er⟩:=h
 cases n with
 | zero=>
  change List Pr at t
  have o1:t.length≤most:=oc
  have ne:t≠[]:=g
  have lp:0<t.length:=List.length_pos_iff.mpr ne
  simp only[pvT]
  walk_at "pv"
  refine zai (fun c=>absurd (of_decide_eq_true c) (by decide)) fun c=>?_
  walk_at "pv"
  rw[List.length_map]
  refine zai (fun c=>absurd (of_decide_eq_true c) (by omega)) fun c=>?_
  walk_at "pv"
  refine zai (fun cb=>?_) fun cb=>?_
  ·walk_at "pv"
   refine zai (fun c=>?_) fun c=>absurd c (by decide)
   walk_at "pv"
   rw[List.length_map]
   refine zai (fun c=>absurd (eq_of_beq c) (by omega)) fun c=>?_
   walk_at "pv"
   exact er.symm
  ·have o2:most / 2≤t.length:=(oc2 cb).1
   walk_at "pv"
   refine⟨by decide,?_⟩
   rw[List.length_map]
   refine zai (fun c=>absurd (of_decide_eq_true c) (by omega)) fun c=>?_
   walk_at "pv"
   refine zai (fun c=>?_) fun c=>absurd c (by decide)
   walk_at "pv"
   rw[List.length_map]
   refine zai (fun c=>absurd (eq_of_beq c) (by omega)) fun c=>?_
   walk_at "pv"
   exact er.symm
 | succ n=>
  change List (Tr n) at t
  have g':2≤t.length∧∀ k∈t,Good n k:=g
  have s':Srt (t.flatMap (flat n)):=s
  have few':Few (t.flatMap (flat n)):=few
  have f1:=few'.1
  have kf:=zbt g'.2
  have o1:t.length≤most+1∧∀ k∈t,Occ most n k:=oc
  have g1:=g'.1
  obtain⟨t0,ts,et⟩:∃ t0 ts,t=t0::ts:=by
   cases t with
   | nil=>simp at g1
   | cons a l=>exact⟨a,l,rfl⟩
  have a0:atI (t.map (kidV n)) 0=some (kidV n t0):=by rw[et,List.map_cons,at_0]
  have o11:=o1.1
  simp only[pvT]
  walk_at "pv"
  refine zai (fun c=>absurd (of_decide_eq_true c) (by decide)) fun c=>?_
  walk_at "pv"
  rw[List.length_map,zaY]
  refine zai (fun c=>absurd (of_decide_eq_true c) (by omega)) fun c=>?_
  walk_at "pv"
  refine zai (fun cb=>?_) fun cb=>?_
  rotate_left
  have o2:most / 2+1≤t.length:=(oc2 cb).1
  walk_at "pv"
  refine⟨by decide,?_⟩
  rw[List.length_map,zaY]
  refine zai (fun c=>absurd (of_decide_eq_true c) (by omega)) fun c=>?_
  rotate_left
  all_goals
   walk_at "pv"
   refine zai (fun c=>?_) fun c=>absurd c (by decide)
   walk_at "pv"
   rw[List.length_map,zaY]
   refine zai (fun c=>absurd (eq_of_beq c) (by omega)) fun c=>?_
   walk_at "pv"
   rw[List.length_map,List.length_map,zaY]
   refine zai (fun c=>?_) fun c=>absurd c (by simp;omega)
   walk_at "pv"
   refine zeF t (pvT n) (kidV n) (by omega) (fun B x hx R hR=>?_) ?_
   ·walk_at "pv"
    refine zaa _ ⟨n,most,x,false,by omega,rfl,rfl,rfl,h3,h9,g'.2 x hx,zaX hx s',zdP hx few',(o1.2 x hx).t,fun _=>o1.2 x hx,rfl⟩ ?_
    walk_at "pv"
    exact hR _ ⟨rfl,rfl⟩ rfl
   walk_at "pv"
   refine zaa _ (non_kids t) ?_
   walk_at "pv"
   refine zfo t (kidV n) (kidV n) (fun _=>false) (by omega) (fun B x hx Rs Rn h1 h2=>?_) ?_
   ·have ex:kidV n x=.tup [.lst ((flat n x).map Pr.pv),.int n]:=rfl
    rw[ex]
    walk_at "pv"
    refine zaa _ a0 ?_
    have e0:kidV n t0=.tup [.lst ((flat n t0).map Pr.pv),.int n]:=rfl
    rw[e0]
    walk_at "pv"
    refine zai (fun c=>?_) fun c=>absurd c (by simp)
    exact h2 _ rfl ⟨rfl,rfl⟩ rfl
   rw[show t.filter (fun _=>false)=[] by simp,List.map_nil]
   walk_at "pv"
   refine zaa _ ⟨⟨1,by decide,L2.dp_l (fun _ h=>by cases h),L2.dp_l (fun _ h=>by cases h)⟩,rfl⟩ ?_
   rw[show(true^^peq (.lst []) (.lst []))=false from rfl]
   walk_at "pv"
   rw[cutF (by decide),← List.map_drop]
   refine zeF (t.drop 1) (kidV n) (fun k=>(fst n k).pv) (by rw[List.length_drop];omega) (fun B x hx R hR=>?_) ?_
   ·have gx:=g'.2 x (List.mem_of_mem_drop hx)
    have ex:kidV n x=.tup [.lst ((flat n x).map Pr.pv),.int n]:=rfl
    rw[ex]
    walk_at "pv"
    refine zaa _ (fst_at gx) ?_
    walk_at "pv"
    exact hR _ ⟨rfl,rfl⟩ rfl
   have esp:(t.drop 1).map (fun k=>(fst n k).pv)=(seps t).map Pr.pv:=by rw[seps_pv,List.drop_one]
   rw[esp]
   walk_at "pv"
   refine zaa _ ⟨⟨3,by decide,dp_ps _,dp_ps _⟩,rfl⟩ ?_
   rw[zdA 3 _ (dp_ps _)]
   walk_at "pv"
   refine for_m t (kidV n) (fun dd A=>∃ o5:Option Sl,A=⟨B',[some (.val (.tup [.str "node",.tup ((seps t).map Pr.pv),.tup (t.map (pvT n))])),some (.val (.int most)),some (.val (.bl b)),some (.val (.lst (t.map (kidV n)))),some (.val (.lst ((dd.flatMap (flat n)).map Pr.pv))),o5],none⟩) ⟨_,rfl⟩ (fun _ _ _=>?_) ?_ ?_
   ·trivial
   ·rintro dd x rr A2 e ⟨o5,rfl⟩
    have ex:kidV n x=.tup [.lst ((flat n x).map Pr.pv),.int n]:=rfl
    rw[ex]
    walk_at "pv"
    refine⟨?_,some (.val (.tup [.lst ((flat n x).map Pr.pv),.int n])),?_⟩
    ·have e1:t.flatMap (flat n)=dd.flatMap (flat n)++flat n x++rr.flatMap (flat n):=by rw[e];simp
     rw[e1,List.length_append,List.length_append] at f1
     rw[List.length_map,List.length_map]
     omega
    ·rw[List.flatMap_append,List.map_append,show[x].flatMap (flat n)=flat n x by simp]
   ·rintro A2 ⟨o5,rfl⟩
    walk_at "pv"
    refine zaa _ a0 ?_
    have e0:kidV n t0=.tup [.lst ((flat n t0).map Pr.pv),.int n]:=rfl
    rw[e0]
    walk_at "pv"
    rw[er]
    rfl
end
set_option maxHeartbeats 4000000
open PySem L2
section
variable {X:Cx}{K:PySem.W.Frag}{pos:Pos}
theorem n1_w {i:Int} {j}{p:Pos}:WE X (.UnaryOp .USub (.Constant (.int i) j p) pos) (liftV K (uNeg (uC (.int i)))):=⟨e_neg vi⟩
theorem pw_w {i k:Int} {j l}{p q:Pos}:WE X (.BinOp (.Constant (.int i) j p) .Pow (.Constant (.int k) l q) pos) (liftV K (u2 (gI CPow fun i j=>.int (i ^ j.toNat)) (uC (.int i)) (uC (.int k)))):=⟨e_pow (qv vi) (qv vi)⟩
end
def tPair (st:SSt) (P:PV→SSt→Prop):Prop:=st.n≤90000∧∀ (p:Pr) (st':SSt),p.r.length≤2→Nx st 6 st'→P p.pv st'
theorem kinds {r:Int} (h0:0≤r) (h1:r<6):∃ x:Int,atI [PV.int 0,PV.int 1,PV.int 2,PV.int 9,PV.int 10,PV.int (10 ^ Int.toNat 29)] r=some (.int x):=by
 have h:r=0∨r=1∨r=2∨r=3∨r=4∨r=5:=by omega
 rcases h with rfl | rfl | rfl | rfl | rfl | rfl<;>exact⟨_,rfl⟩
section
variable {P:Program}{w:World}{K:PySem.W.Frag}{mg:Str→Option Value}{base:Heap}{m:Nat}
theorem sc__law_pair:FnScope ["_law_state","_law_values","_law_k","_law_some"] ["_law_state"] (defScope zbG):=⟨rfl,rfl,rfl,by decide +kernel,rfl,by decide +kernel,by decide +kernel⟩
theorem zff {k:Nat} (D:Df K mg "_law_pair" zbG) (B:Bt mg) (F__law_take:Kn P w K mg base k "_law_take" (spS K false (Tr2 zcr))):Kn P w K mg base (k+1) "_law_pair" (spS K false (Tr1 tPair)):=by
 refine D.okS sc__law_pair (fun _ _ _ _ _ _ us hl=>match us,hl with | [_],_=>rfl) (fun _ _ _=>Tr1.len) (by decide) (fun f cdv A outer s H E hr=>⟨_,(sc (s_own (i:=1) sc__law_pair.nd (el an))
  (sc (for_w PassesOwn.never rfl (i_rng (by rfl) B.range (zaf rfl hr (qf (el (ac vi (ac vi (ac vi (ac vi an)))))) (qv (zaO rfl F__law_take hr (ac (vn 0) (ac vi an)))))) (g_n (i:=2) sc__law_pair.nd)
  (sc_w (set_w (i:=3) sc__law_pair.nd (el_w (ac_w vi_w (ac_w vi_w (ac_w vi_w (ac_w vs_w (ac_w v0_w (ac_w n1_w (ac_w vs_w (ac_w pw_w (ac_w vs_w (ac_w vs_w (ac_w vs_w an_w)))))))))))))
  (s1 (zcf (e_app rfl 1 (zaf rfl hr (qn 3) (qv (zaO rfl F__law_take hr (ac (vn 0) (ac vi an))))))))))
  (s1 (zal (et (ac (zbZ rfl B.tuple (qn 1)) (ac (zaf rfl hr (qf (el (ac vi (ac vi (ac vi (ac vi (ac vi (ac (e_pow (qv vi) (qv vi)) an)))))))) (qv (zaO rfl F__law_take hr (ac (vn 0) (ac vi an))))) an))))))),fun B' xs st Q h=>?_⟩)
 obtain⟨rfl,h⟩:=h
 change (_:US) (endsS false Q) ⟨B',[some (.val (.raw (.ref st.d))),none,none,none],some st⟩
 obtain⟨hn,h⟩:=h
 obtain⟨d,a,n,D⟩:=st
 have hn':n≤90000:=hn
 walk_at "pv"
 intro pa
 refine draw (by omega) (by decide) (by decide) fun r r0 r1=>?_
 have e:∃ c:Nat,c≤2∧atI [PV.int 1,PV.int 2,PV.int 1,PV.int 0] r=some (.int c):=by
  have:r=0∨r=1∨r=2∨r=3:=by omega
  rcases this with rfl | rfl | rfl | rfl
  ·exact⟨1,by decide,rfl⟩
  ·exact⟨2,by decide,rfl⟩
  ·exact⟨1,by decide,rfl⟩
  ·exact⟨0,by decide,rfl⟩
 obtain⟨c,hc,e⟩:=e
 walk_at "pv"
 refine zaa _ e ?_
 walk_at "pv"
 refine⟨by omega,by omega,?_⟩
 rw[Int.toNat_natCast]
 refine for_r c (fun i A=>∃ (v:List Vl) (m:Nat) (o2 o3:Option Sl),A=⟨B',[some (.val (.raw (.ref d))),some (.own pa (.lst (v.map Vl.pv))),o2,o3],some ⟨d,a,m,D⟩⟩∧v.length=i∧m≤n+1+i) ⟨[],n+1,_,_,rfl,rfl,Nat.le_refl _⟩ (fun _ _ _=>trivial) ?_ ?_
 ·rintro i A2 hi ⟨v,m,o2,o3,rfl,lv,hm⟩
  walk_at "pv"
  refine⟨⟨by decide,by decide,by decide⟩,draw (by omega) (by decide) (by decide) fun q q0 q1=>?_⟩
  obtain⟨x,ex⟩:=some_vl q0 q1
  walk_at "pv"
  refine zaa _ ex ?_
  walk_at "pv"
  have e2:v.map Vl.pv++[x.pv]=(v++[x]).map Vl.pv:=by rw[List.map_append];rfl
  rw[e2]
  exact⟨by rw[List.length_map];omega,v++[x],m+1,_,_,rfl,by rw[List.length_append,lv];rfl,by omega⟩
 ·rintro A2 ⟨v,m,o2,o3,rfl,lv,hm⟩
  walk_at "pv"
  refine⟨⟨by decide,by decide,by decide⟩,draw (by omega) (by decide) (by decide) fun q q0 q1=>?_⟩
  obtain⟨x,ex⟩:=kinds q0 q1
  walk_at "pv"
  refine zaa _ ex ?_
  walk_at "pv"
  exact h ⟨v,x⟩ ⟨d,a,m+1,D⟩ (by show v.length≤2;omega) ⟨m+1,(by show m+1≤n+6;omega),rfl⟩
end
set_option maxHeartbeats 1000000
open PySem L2
theorem pv_inj {p q:Pr} (h:p.pv=q.pv):p=q:=by
 have h1:=zda p p
 have h2:=zda p q
 rw[← h,h1] at h2
 simpa using h2
open Classical in
noncomputable def ky (x:PV):PV:=if h:∃ q:Pr,x=q.pv then rkP h.choose else .non
theorem zfa (q:Pr):ky q.pv=rkP q:=by
 have h:∃ r:Pr,q.pv=r.pv:=⟨q,rfl⟩
 unfold ky
 rw[dif_pos h,← pv_inj h.choose_spec]
def cnt (l:List Pr) (x:Pr):Nat:=(l.filter fun q=>plt q x).length
theorem cnt_lt {l:List Pr}{x y:Pr} (hx:x∈l) (h:plt x y=true):cnt l x<cnt l y:=by
 unfold cnt
 have e:l.filter (fun q=>plt q x)=(l.filter fun q=>plt q y).filter fun q=>plt q x:=by
  rw[List.filter_filter]
  refine List.filter_congr fun q _=>?_
  cases e:plt q x with
  | false=>rfl
  | true=>rw[pl.tr e h];rfl
 rw[e]
 exact List.length_filter_lt_length_iff_exists.mpr ⟨x,List.mem_filter.mpr ⟨hx,h⟩,by rw[pl.ir];decide⟩
theorem cnt_iff {l:List Pr}{x y:Pr} (hx:x∈l) (hy:y∈l):plt x y=decide ((cnt l x:Int)<cnt l y):=by
 cases e:plt x y with
 | true=>exact(decide_eq_true (by have:=cnt_lt hx e;omega)).symm
 | false=>
  refine(decide_eq_false ?_).symm
  by_cases h:x=y
  ·subst h;omega
  ·rcases pl.ap h with h | h
   ·rw[e] at h;cases h
   ·have:=cnt_lt hy h;omega
theorem cnt_inj {l:List Pr}{x y:Pr} (hx:x∈l) (hy:y∈l) (h:(cnt l x:Int)=cnt l y):x=y:=by
 refine Classical.byContradiction fun n=>?_
 rcases pl.ap n with e | e
 ·have:=cnt_lt hx e;omega
 ·have:=cnt_lt hy e;omega
theorem srt_ext:∀ {a b:List Pr},Srt a→Srt b→(∀ q,q∈a↔q∈b)→a=b
 | [],[],_,_,_=>rfl
 | [],y::_,_,_,h=>by have:=(h y).mpr (by simp);cases this
 | x::_,[],_,_,h=>by have:=(h x).mp (by simp);cases this
 | x::xs,y::ys,ha,hb,h=>by
  obtain⟨a1,a2⟩:=List.pairwise_cons.mp ha
  obtain⟨b1,b2⟩:=List.pairwise_cons.mp hb
  have e:x=y:=by
   rcases List.mem_cons.mp ((h x).mp (by simp)) with e | e
   ·exact e
   ·rcases List.mem_cons.mp ((h y).mpr (by simp)) with f | f
    ·exact f.symm
    ·have:=pl.as (b1 x e);rw[a1 y f] at this;cases this
  subst e
  have:xs=ys:=srt_ext a2 b2 fun q=>by
   constructor
   ·intro hq
    rcases List.mem_cons.mp ((h q).mp (by simp [hq])) with e | e
    ·subst e;have:=a1 q hq;rw[pl.ir] at this;cases this
    ·exact e
   ·intro hq
    rcases List.mem_cons.mp ((h q).mpr (by simp [hq])) with e | e
    ·subst e;have:=b1 q hq;rw[pl.ir] at this;cases this
    ·exact e
  rw[this]
theorem zeh {l:List Pr} (s:Srt l):l.Nodup:=s.imp fun {a b} h e=>by subst e;rw[pl.ir] at h;cases h
theorem keys_ok {l:List Pr} (few:l.length<64) (nd:l.Nodup):KeysOk (l.map Pr.pv) ky (fun i=>(cnt l (l.getD i d0):Int)) where
 few:=by rw[List.length_map];exact few
 tup x hx:=by
  obtain⟨q,_,rfl⟩:=List.mem_map.mp hx
  rw[zfa]
  exact⟨_,_,rfl⟩
 dp:=⟨3,by decide,fun x hx=>by
  obtain⟨q,_,rfl⟩:=List.mem_map.mp hx
  rw[zfa]
  exact dp_rkP q⟩
 ok x hx y hy:=by
  obtain⟨q,_,rfl⟩:=List.mem_map.mp hx
  obtain⟨r,_,rfl⟩:=List.mem_map.mp hy
  rw[zfa,zfa]
  exact(zfp (op:=.Lt) (.inl rfl) q r).1
 inj i j hi hj h:=by
  rw[List.length_map] at hi hj
  have e1:l.getD i d0=l[i]:=by simp [hi]
  have e2:l.getD j d0=l[j]:=by simp [hj]
  rw[e1,e2] at h
  exact(List.getElem_inj nd).mp (cnt_inj (List.getElem_mem hi) (List.getElem_mem hj) h)
 lt i j x y hx hy:=by
  rw[List.getElem?_map] at hx hy
  obtain⟨q,hq,rfl⟩:=Option.map_eq_some_iff.mp hx
  obtain⟨r,hr,rfl⟩:=Option.map_eq_some_iff.mp hy
  have e1:l.getD i d0=q:=by simp [hq]
  have e2:l.getD j d0=r:=by simp [hr]
  rw[zfa,zfa,(zfp (op:=.Lt) (.inl rfl) q r).2,e1,e2]
  exact cnt_iff (List.mem_of_getElem? hq) (List.mem_of_getElem? hr)
theorem sorted_is {l ps:List Pr}{p:Array Nat} (nd:l.Nodup) (s:Srt ps) (mem:∀ q,q∈l↔q∈ps) (P:KS.Pm l.length p) (asc:KS.Asc (fun i=>(cnt l (l.getD i d0):Int)) p l.length):(p.toList.map fun i=>(l.map Pr.pv).getD i .non)=ps.map Pr.pv:=by
 have hp:∀ i,i∈p.toList↔i<l.length:=fun i=>by
  have:=P.mem_iff (a:=i)
  rw[this,List.mem_range]
 have e1:(p.toList.map fun i=>(l.map Pr.pv).getD i .non)=(p.toList.map fun i=>l.getD i d0).map Pr.pv:=by
  rw[List.map_map]
  refine List.map_congr_left fun i hi=>?_
  have hi':=(hp i).mp hi
  simp [hi']
 rw[e1]
 congr 1
 refine srt_ext ?_ s fun q=>?_
 ·refine List.pairwise_iff_getElem.mpr fun i j hi hj hij=>?_
  have hs:=P.size
  have hi2:i<p.size:=by simpa using hi
  have hj2:j<p.size:=by simpa using hj
  have h:=asc i j hij (by omega)
  have hi3:=(hp p[i]).mp (by simp)
  have hj3:=(hp p[j]).mp (by simp)
  have g1:KS.Kp (fun i=>(cnt l (l.getD i d0):Int)) p i=cnt l l[p[i]]:=by unfold KS.Kp;simp [Array.getD,hi2,hi3]
  have g2:KS.Kp (fun i=>(cnt l (l.getD i d0):Int)) p j=cnt l l[p[j]]:=by unfold KS.Kp;simp [Array.getD,hj2,hj3]
  rw[g1,g2] at h
  simp only[List.getElem_map,Array.getElem_toList]
  have k1:l.getD p[i] d0=l[p[i]]:=by simp [hi3]
  have k2:l.getD p[j] d0=l[p[j]]:=by simp [hj3]
  rw[k1,k2,cnt_iff (l:=l) (List.getElem_mem hi3) (List.getElem_mem hj3)]
  exact decide_eq_true h
 ·rw[← mem,List.mem_map]
  constructor
  ·rintro⟨i,hi,rfl⟩
   have hi':=(hp i).mp hi
   have k1:l.getD i d0=l[i]:=by simp [hi']
   rw[k1]
   exact List.getElem_mem hi'
  ·intro hq
   obtain⟨i,hi,rfl⟩:=List.mem_iff_getElem.mp hq
   exact⟨i,(hp i).mpr hi,by simp [hi]⟩
theorem rem_is {l:List Pr}{j:Nat}{p:Pr} (nd:l.Nodup) (h:l[j]?=some p):(∀ q,q∈l.eraseIdx j↔q∈l∧q≠p)∧(l.eraseIdx j).Nodup∧(l.eraseIdx j).length+1=l.length:=by
 obtain⟨hj,e⟩:=List.getElem?_eq_some_iff.mp h
 have h1:l=l.take j++p::l.drop (j+1):=by rw[← e];simp
 have h2:l.eraseIdx j=l.take j++l.drop (j+1):=List.eraseIdx_eq_take_drop_succ ..
 rw[h2]
 have nd':=nd
 rw[h1] at nd'
 obtain⟨n1,n2,n3⟩:=List.nodup_append.mp nd'
 obtain⟨n4,n5⟩:=List.nodup_cons.mp n2
 refine⟨fun q=>?_,List.nodup_append.mpr ⟨n1,n5,fun a ha b hb=>n3 a ha b (by simp [hb])⟩,?_⟩
 ·have m1:q∈l↔q∈l.take j∨q=p∨q∈l.drop (j+1):=by
   have h3:q∈l↔q∈l.take j++p::l.drop (j+1):=h1▸Iff.rfl
   rw[List.mem_append,List.mem_cons] at h3
   exact h3
  rw[m1,List.mem_append]
  constructor
  ·rintro(h | h)
   ·exact⟨.inl h,fun z=>n3 q h p (by simp) z⟩
   ·exact⟨.inr (.inr h),fun z=>n4 (z▸h)⟩
  ·rintro⟨h | h | h,n⟩
   ·exact .inl h
   ·exact absurd h n
   ·exact .inr h
 ·have:=congrArg List.length h1
  rw[List.length_append,List.length_cons] at this
  rw[List.length_append]
  omega
theorem fil_len {l:List Pr}{p:Pr} (nd:l.Nodup) (h:p∈l):(l.filter fun q=>decide (q≠p)).length+1=l.length:=by
 induction l with
 | nil=>cases h
 | cons x l ih=>
  obtain⟨n1,n2⟩:=List.nodup_cons.mp nd
  by_cases e:x=p
  ·subst e
   have:l.filter (fun q=>decide (q≠x))=l:=List.filter_eq_self.mpr fun q hq=>decide_eq_true fun z=>n1 (z▸hq)
   rw[List.filter_cons,if_neg (by simp),this,List.length_cons]
  ·have hp:p∈l:=(List.mem_cons.mp h).elim (fun z=>absurd z.symm e) id
   rw[List.filter_cons,if_pos (decide_eq_true e),List.length_cons,List.length_cons,ih n2 hp]
theorem find_is {l:List Pr}{p:Pr} (h:p∈l):∃ j,l[j]?=some p∧∀ (m:Nat) (q:Pr),m<j→l[m]?=some q→q≠p:=by
 induction l with
 | nil=>cases h
 | cons x l ih=>
  by_cases e:x=p
  ·exact⟨0,by simp [e],fun m q hm=>by omega⟩
  ·obtain⟨j,h1,h2⟩:=ih ((List.mem_cons.mp h).elim (fun z=>absurd z.symm e) id)
   refine⟨j+1,by simpa using h1,fun m q hm hq=>?_⟩
   cases m with
   | zero=>simp at hq;subst hq;exact e
   | succ m=>exact h2 m q (by omega) (by simpa using hq)
set_option maxHeartbeats 4000000
open PySem L2
def Hld (m:Nat) (held ps:List Pr) (top:PV):Prop:=TP m ps top∧(∀ q,q∈held↔q∈ps)∧held.Nodup∧held.length=ps.length∧held.length<64∧∀ q∈held,q.r.length≤900
theorem dp_prs (l:List Pr):∀ x∈l.map Pr.pv,Dp 2 x:=fun x hx=>by obtain⟨q,_,rfl⟩:=List.mem_map.mp hx;exact zcW q
theorem zaP (l:List Pr):Dp 3 (.lst (l.map Pr.pv)):=dp_lst.mpr (dp_all.mpr (dp_prs l))
theorem zeT (l:List Pr):peq (.lst (l.map Pr.pv)) (.lst (l.map Pr.pv))=true:=zdA 3 _ (zaP l)
def tStands (C:Addr):GT:=fun xs S P=>∃ (dx:Addr) (m:Nat) (top:PV) (ps held:List Pr) (b:Bool),xs=[.o (.ins C dx (tf m top ps.length)),.v (.int m),.o (.lst (held.map Pr.pv)),.v (.bl b)]∧S=none∧3≤m∧m≤9∧Hld m held ps top∧P (.bl true) [.ins C dx (tf m top ps.length),.lst (held.map Pr.pv)] none
theorem zcD {C:Addr}{xs:List Ag}{S:Option SSt}{P:PV→List OC→Option SSt→Prop} (h:tStands C xs S P):xs.length=4:=by
 obtain⟨_,_,_,_,_,_,rfl,_⟩:=h
 rfl
section
variable {P:Program}{w:World}{K:PySem.W.Frag}{mg:Str→Option Value}{base:Heap}{m:Nat}
theorem sc__law_stands:FnScope ["_law_tree","_law_most","_law_held","_law_is_asked","_law_due","_law_count","_law_shape","_law_there","_law_found"] ["_law_tree","_law_most","_law_held","_law_is_asked"] (defScope zba):=⟨rfl,rfl,rfl,by decide +kernel,rfl,by decide +kernel,by decide +kernel⟩
theorem zdJ {k0:Nat}{C:Addr} (D:Df K mg "_law_stands" zba) (B:Bt mg) (Cl:Cls K C) (M_many:KnM P w K mg base (k0+2) C "many" (spM K C false (Mr0 rMMany))) (M_shape:KnM P w K mg base (k0+2) C "shape" (spM K C false (Mr0 rMShape))) (M_pairs:KnM P w K mg base (k0+2) C "pairs" (spM K C true (Mr0 rMPairs))) (G__law_pair_order:Kn P w K mg base k0 "_law_pair_order" (spV K false (Rl1 rPairRank))) (F__law_walked:Kn P w K mg base (k0+2) "_law_walked" (spV K false (Rl3 (rW 7)))) (F__law_whole:Kn P w K mg base (k0+2) "_law_whole" (spV K false (Rl1 rWhole))):Kn P w K mg base (k0+3) "_law_stands" (spG K (tStands C)):=by
 refine D.okG sc__law_stands (fun _ _ _ _ _ _ us hl=>match us,hl with | [_,_,_,_],_=>rfl) (fun _ _ _=>zcD) (fun f cdv A outer s H E hr=>⟨_,(sc (zas (i:=4) sc__law_stands.nd (vf (e_sortK rfl B.sorted G__law_pair_order hr (qn 2))))
  (sc (zas (i:=5) sc__law_stands.nd (e_meth0 rfl 0 Cl M_many hr))
  (sc (s_if (PW.pt (t_or (zbw (zbc rfl (qv (zap rfl F__law_whole hr (ac (vn 5) an))))) (zbR (t_ne rfl hr (qn 5) (qv (zbd rfl B.len (qn 4))))))) (s1 (zal vb)) sn)
  (sc (zas (i:=6) sc__law_stands.nd (e_meth0 rfl 0 Cl M_shape hr))
  (sc (s_if (t_eq rfl hr (qn 4) (qf (el an))) (s1 (zal (e_and (e_is (qn 6) (qv v0)) (e_one (e_eq rfl hr (qf (zdS rfl 0 Cl M_pairs hr)) (qf (el an))))))) sn)
  (sc (zas (i:=7) sc__law_stands.nd (zap rfl F__law_walked hr (ac (vn 6) (ac (vn 1) (ac vb an)))))
  (sc (s_if (PW.pt (t_or (t_is (qn 7) (qv v0)) (zbR (t_ne rfl hr (qv (zaf rfl hr (qn 7) (qv vi))) (qn 4))))) (s1 (zal vb)) sn)
  (sc (s_if (zbc rfl (qn 3)) (sc (s_own (i:=8) sc__law_stands.nd (zdS rfl 0 Cl M_pairs hr))
  (sc (s_if (PW.pt (t_or (zbw (zbc rfl (qv (zbb .list rfl B.isinstance B.list PyProof.Rows.boot_list (qn 8))))) (zbR (t_ne rfl hr (qn 8) (qn 4))))) (s1 (zal vb)) sn)
  (sc (zcf (e_revM rfl 8))
  (s1 (zcf (e_app rfl 8 v0)))))) sn)
  (s1 (zal vb)))))))))),fun B' ss S Q h np=>?_⟩)
 obtain⟨dx,m,top,ps,held,b,e,rfl,h3,h9,hh,hP⟩:=h
 obtain⟨ad,ss,rfl,e,np⟩:=ag_o e np
 obtain⟨ss,rfl,e,np⟩:=ag_v e np
 obtain⟨ah,ss,rfl,e,np⟩:=ag_o e np
 obtain⟨ss,rfl,e,np⟩:=ag_v e np
 cases ag_0 e
 change (_:US) (endsG _ Q) ⟨B',[some (.own ad (.ins C dx (tf m top ps.length))),some (.val (.int m)),some (.own ah (.lst (held.map Pr.pv))),some (.val (.bl b)),none,none,none,none,none],none⟩
 obtain⟨T,mem,nd,len,few,lens⟩:=hh
 have T':=T
 obtain⟨fw,srt,tp⟩:=T'
 walk_at "pv"
 refine⟨ky,_,keys_ok few nd,fun x hx=>?_,fun p Pp asc=>?_⟩
 ·obtain⟨q,hq,rfl⟩:=List.mem_map.mp hx
  exact⟨_,rfl,q,rfl,lens q hq,zfa q⟩
 rw[List.length_map] at Pp asc
 rw[sorted_is nd srt mem Pp asc]
 walk_at "pv"
 refine⟨rfl,m,ps.length,top,rfl,?_⟩
 refine zaa _ ⟨_,rfl,rfl⟩ ?_
 walk_at "pv"
 rw[List.length_map]
 refine zai (fun c=>?_) fun c=>absurd c (by simp)
 walk_at "pv"
 refine⟨rfl,m,ps.length,top,rfl,?_⟩
 walk_at "pv"
 refine zaa _ ⟨⟨3,by decide,zaP _,zaP []⟩,rfl⟩ ?_
 refine zai (fun c=>?_) fun c=>?_
 ·have e0:ps=[]:=by
   cases ps with
   | nil=>rfl
   | cons _ _=>simp [peq,peqs] at c
  subst e0
  rcases tp with ⟨_,rfl⟩ | ⟨n,t,rfl,g,_,e⟩
  ·walk_at "pv"
   refine⟨rfl,m,0,.non,[],rfl,T,?_⟩
   refine zaa _ ⟨⟨3,by decide,zaP [],zaP []⟩,rfl⟩ ?_
   walk_at "pv"
   exact hP
  ·exact absurd e (zbg g)
 ·rcases tp with ⟨rfl,rfl⟩ | ⟨n,t,rfl,g,oc,rfl⟩
  ·simp [peq,peqs] at c
  walk_at "pv"
  refine zaa _ ⟨n,m,t,true,zdc g fw,rfl,rfl,rfl,h3,h9,g,srt,fw,oc,(fun z=>by cases z),rfl⟩ ?_
  walk_at "pv"
  refine zaa _ ⟨⟨3,by decide,zaP _,zaP _⟩,rfl⟩ ?_
  rw[zeT]
  walk_at "pv"
  refine zai (fun cb=>?_) fun cb=>?_
  ·walk_at "pv"
   refine⟨rfl,m,_,pvT n t,flat n t,rfl,T,?_⟩
   walk_at "pv"
   intro pa
   refine zaa _ ⟨⟨3,by decide,zaP _,zaP _⟩,rfl⟩ ?_
   rw[zeT]
   walk_at "pv"
   rw[List.length_reverse,List.length_map]
   exact⟨by have:=fw.1;omega,hP⟩
  ·walk_at "pv"
   exact hP
end
open PySem L2
abbrev bmV:List Value:=[.type "ValueError",.type "Exception",.type "BaseException",.type "object"]
def gPutX (xs:List PV) (fs:Fs):Prop:=∃ (m:Nat) (n:Int) (top:PV) (ps:List Pr) (p:Pr),fs=tf m top n∧TP m ps top∧xs=[rowP p.r,.int p.k]∧p.r.length≤900∧p∈ps
def gTakeX (xs:List PV) (fs:Fs):Prop:=∃ (m:Nat) (n:Int) (top:PV) (ps:List Pr) (p:Pr),fs=tf m top n∧TP m ps top∧xs=[rowP p.r,.int p.k]∧p.r.length≤900∧p∉ps
section
variable {P:Program}{w:World}{K:PySem.W.Frag}{mg:Str→Option Value}{base:Heap}{m:Nat}
theorem kx_put {k:Nat}{C D:Addr} (Dm:DfM K C "put" "Tree.put" m_put) (B:Bt mg) (Cl:Cls K C) (M_has:KnM P w K mg base k C "has" (spM K C false (Mr1 rHas))) (O:PyProof.Rows.OwnCls "NoTree" D bmV "ValueError.__new__" mg base):KnMX P w K mg base (k+1) C "put" (spMX K C gPutX D):=by
 refine Dm.okMX sc_put (fun _ _ _ _ _ _ us hl=>match us,hl with | [_,_,_],_=>rfl) (fun xs fs h=>by obtain⟨_,_,_,_,_,_,_,rfl,_⟩:=h;rfl) (by decide) (fun f cdv A outer s H E hr=>⟨_,zah (zas (K:=K) (i:=3) sc_put.nd (et (ac (vn 1) (ac (vn 2) an)))) (zah (zcR (zbc rfl (qv (zch rfl 0 Cl M_has hr (ac (vn 3) an)))) (zak (zdu (R:=fun H1=>∀ e,E (.ref e) (some D) H1) O PySem.F.excBase_ValueError rfl rfl (zad zaq pa_nil) (fun pins σ H1 s1 h' e us I m hR=>xe_of I m hR))) pss_nil) zcv),fun B' p dx xs fs vs D' g hE R=>?_⟩)
 obtain⟨m,n,top,ps,q,rfl,tp,rfl,lq,hq⟩:=g
 refine⟨_,{ nx:=fun A1=>A1=⟨B',[some (.own p (.ins C dx (tf m top n))),some (.val (rowP q.r)),some (.val (.int q.k)),some (.val (.tup [rowP q.r,.int q.k])),none],none⟩,rt:=fun _ _=>False,rf:=fun _ _=>False },R,?_,⟨fun A1 σ1 H1 e R1 S1=>?_,fun _ _ _ _ _ h=>h.elim,fun _ _ _ _ _ _ h=>h.elim,fun _ _ _ _ _ _ _ _ h=>h.elim,fun _ _ _ h=>h.elim,fun _ _ _ h=>h.elim⟩⟩
 ·change (_:US) _ ⟨B',[some (.own p (.ins C dx (tf m top n))),some (.val (rowP q.r)),some (.val (.int q.k)),none,none],none⟩
  walk_at "pv"
 ·subst e
  refine⟨_,fun b A2=>b=true∧A2=⟨B',[some (.own p (.ins C dx (tf m top n))),some (.val (rowP q.r)),some (.val (.int q.k)),some (.val (.tup [rowP q.r,.int q.k])),none],none⟩,R1,?_,fun b A2 H2 ⟨e1,e2⟩ R2 S2=>?_⟩
  ·walk_at "pv"
   refine⟨_,rfl,m,n,top,ps,q,rfl,tp,rfl,lq,?_⟩
   rw[decide_eq_true hq]
   walk_at "pv"
   done
  ·subst e1
   subst e2
   obtain⟨bt,ws',h1,h2⟩:=zeN R2 (S1.trans S2) rfl
   exact iteT ⟨by decide,fun e=>hE e _ ws' bt h1 h2⟩
theorem kx_take {k:Nat}{C D:Addr} (Dm:DfM K C "take" "Tree.take" zfG) (B:Bt mg) (Cl:Cls K C) (M_has:KnM P w K mg base k C "has" (spM K C false (Mr1 rHas))) (O:PyProof.Rows.OwnCls "NoTree" D bmV "ValueError.__new__" mg base):KnMX P w K mg base (k+1) C "take" (spMX K C gTakeX D):=by
 refine Dm.okMX sc_take (fun _ _ _ _ _ _ us hl=>match us,hl with | [_,_,_],_=>rfl) (fun xs fs h=>by obtain⟨_,_,_,_,_,_,_,rfl,_⟩:=h;rfl) (by decide) (fun f cdv A outer s H E hr=>⟨_,zah (zas (K:=K) (i:=3) sc_take.nd (et (ac (vn 1) (ac (vn 2) an)))) (zah (zcR (zbw (zbc rfl (qv (zch rfl 0 Cl M_has hr (ac (vn 3) an))))) (zak (zdu (R:=fun H1=>∀ e,E (.ref e) (some D) H1) O PySem.F.excBase_ValueError rfl rfl (zad zaq pa_nil) (fun pins σ H1 s1 h' e us I m hR=>xe_of I m hR))) pss_nil) zcv),fun B' p dx xs fs vs D' g hE R=>?_⟩)
 obtain⟨m,n,top,ps,q,rfl,tp,rfl,lq,hq⟩:=g
 refine⟨_,{ nx:=fun A1=>A1=⟨B',[some (.own p (.ins C dx (tf m top n))),some (.val (rowP q.r)),some (.val (.int q.k)),some (.val (.tup [rowP q.r,.int q.k])),none],none⟩,rt:=fun _ _=>False,rf:=fun _ _=>False },R,?_,⟨fun A1 σ1 H1 e R1 S1=>?_,fun _ _ _ _ _ h=>h.elim,fun _ _ _ _ _ _ h=>h.elim,fun _ _ _ _ _ _ _ _ h=>h.elim,fun _ _ _ h=>h.elim,fun _ _ _ h=>h.elim⟩⟩
 ·change (_:US) _ ⟨B',[some (.own p (.ins C dx (tf m top n))),some (.val (rowP q.r)),some (.val (.int q.k)),none,none],none⟩
  walk_at "pv"
 ·subst e
  refine⟨_,fun b A2=>b=true∧A2=⟨B',[some (.own p (.ins C dx (tf m top n))),some (.val (rowP q.r)),some (.val (.int q.k)),some (.val (.tup [rowP q.r,.int q.k])),none],none⟩,R1,?_,fun b A2 H2 ⟨e1,e2⟩ R2 S2=>?_⟩
  ·walk_at "pv"
   refine⟨_,rfl,m,n,top,ps,q,rfl,tp,rfl,lq,?_⟩
   rw[decide_eq_false hq]
   walk_at "pv"
   done
  ·subst e1
   subst e2
   obtain⟨bt,ws',h1,h2⟩:=zeN R2 (S1.trans S2) rfl
   exact iteT ⟨by decide,fun e=>hE e _ ws' bt h1 h2⟩
def BadM (x:PV):Prop:=(∃ i:Int,x=.int i∧(i<3∨9<i))∨x=.non∨(∃ b,x=.bl b)∨(∃ s,x=.str s)∨∃ l,x=.tup l
def rWh (x r:PV):Prop:=((∃ i,x=.int i)∧r=.bl true)∨((x=.non∨(∃ b,x=.bl b)∨(∃ s,x=.str s)∨∃ l,x=.tup l)∧r=.bl false)
theorem zfb {k:Nat} (D:Df K mg "is_whole" zbu) (B:Bt mg):Kn P w K mg base (k+1) "is_whole" (spV K false (Rl1 rWh)):=by
 refine D.okV zcs (fun _ _ _ _ _ _ us hl=>match us,hl with | [_],_=>rfl) (fun _ _=>Rl1.len) (by decide) (fun f cdv A outer s H E hr=>⟨_,(s1 (zal (e_and (zbb .int rfl B.isinstance B.int PyProof.Rows.boot_int (qn 0)) (e_one (e_not (zbb .bool rfl B.isinstance B.bool PyProof.Rows.boot_bool (qn 0))))))),fun B' xs r h=>?_⟩)
 obtain⟨x0,rfl,h⟩:=h
 change (_:US) (endsV false r) ⟨B',[some (.val x0)],none⟩
 rcases h with ⟨⟨i,rfl⟩,rfl⟩ | ⟨rfl | ⟨i,rfl⟩ | ⟨i,rfl⟩ | ⟨i,rfl⟩,rfl⟩
 ·walk_at "pv"
 ·walk_at "pv"
  refine zaa false rfl ?_
  walk_at "pv"
 ·walk_at "pv"
  refine zaa true rfl ?_
  walk_at "pv"
  exact zaa true rfl rfl
 ·walk_at "pv"
  refine zaa false rfl ?_
  walk_at "pv"
 ·walk_at "pv"
  refine zaa false rfl ?_
  walk_at "pv"
def gInitX (xs:List PV) (fs:Fs):Prop:=∃ x,xs=[x]∧BadM x
theorem kx_init {k:Nat}{C D:Addr} (Dm:DfM K C "__init__" "Tree.__init__" zfH) (B:Bt mg) (C_LEAST_MOST:Gc K mg "LEAST_MOST" (.int 3)) (C_GREATEST_MOST:Gc K mg "GREATEST_MOST" (.int 9)) (F_is_whole:Kn P w K mg base k "is_whole" (spV K false (Rl1 rWh))) (O:PyProof.Rows.OwnCls "NoTree" D bmV "ValueError.__new__" mg base):KnMX P w K mg base (k+1) C "__init__" (spMX K C gInitX D):=by
 refine Dm.okMX sc_init (fun _ _ _ _ _ _ us hl=>match us,hl with | [_,_],_=>rfl) (fun xs fs h=>by obtain⟨_,rfl,_⟩:=h;rfl) (by decide) (fun f cdv A outer s H E hr=>⟨_,zah (zcR (PW.pt (t_or (K:=K) (zbw (zbc rfl (qv (zap rfl F_is_whole hr (ac (vn 1) an))))) (zbR (zbw (t_chn (op_le.or zbf) (op_le.or zbf) br_le br_le (qv (vg C_LEAST_MOST)) (qn 1) (qv (vg C_GREATEST_MOST))))))) (zak (zdu (R:=fun H1=>∀ e,E (.ref e) (some D) H1) O PySem.F.excBase_ValueError rfl rfl (zad zaq pa_nil) (fun pins σ H1 s1 h' e us I m hR=>xe_of I m hR))) pss_nil) zcv,fun B' p dx xs fs vs D' g hE R=>?_⟩)
 obtain⟨x,rfl,bad⟩:=g
 refine⟨_,fun b A2=>b=true∧A2=⟨B',[some (.own p (.ins C dx fs)),some (.val x)],none⟩,R,?_,fun b A2 H2 ⟨e1,e2⟩ R2 S2=>?_⟩
 ·change (_:UT) ⟨B',[some (.own p (.ins C dx fs)),some (.val x)],none⟩ _
  rcases bad with ⟨i,rfl,hi⟩ | bad
  ·walk_at "pv"
   refine zaa _ (.inl ⟨⟨i,rfl⟩,rfl⟩) ?_
   walk_at "pv"
   refine zai (fun c=>?_) fun c=>rfl
   walk_at "pv"
   rw[decide_eq_false (by have:=of_decide_eq_true c;omega)]
   rfl
  ·walk_at "pv"
   refine zaa _ (.inr ⟨bad,rfl⟩) ?_
   walk_at "pv"
 ·subst e1
  subst e2
  obtain⟨bt,ws',h1,h2⟩:=zeN R2 S2 rfl
  exact iteT ⟨by decide,fun e=>hE e _ ws' bt h1 h2⟩
theorem zdZ:∀ {cs:List Addr}{us:List Value},Vals (cs.map V.ref) us→us=cs.map Value.ref
 | [],_,.nil=>rfl
 | c::cs,u::us,.cons r h=>by rw[show u=Value.ref c from r,zdZ h];rfl
structure Kl (K:PySem.W.Frag) (mg:Str→Option Value) (C Dp:Addr) (cs:List Addr):Prop where
 pe:mg "PlanError"=some (.ref Dp)
 no:mg "NoTree"=some (.ref C)
 m:ExM K C Dp
 z:ExK K C
 kv:PySem.W.kitOne K (.ref C) (.type "ValueError")=some true
 ka:PySem.W.kitAny K (.ref C) (cs.map Value.ref)=some false
def spNT (K:PySem.W.Frag) (D:Addr):Sp:=fun vs H Q _=>∃ a,vs=[.ref a]∧H a=some (ExO a D)∧∀ H',Same H H'→Q (.bl true) H'
theorem zbN:FnScope ["_law_caught"] ["_law_caught"] (defScope zaE):=⟨rfl,rfl,rfl,by decide +kernel,rfl,by decide +kernel,by decide +kernel⟩
theorem zbV {k:Nat}{C Dp c1 c2 c3 c4 c5 c6 c7 c8 c9 c10 c11:Addr} (D:Df K mg "_law_is_no_tree" zaE) (B:Bt mg) (Z:Kl K mg C Dp [c1,c2,c3,c4,c5,c6,c7,c8,c9,c10,c11])
  (h1:mg "Late"=some (.ref c1)) (h2:mg "NoAsk"=some (.ref c2)) (h3:mg "NoFrame"=some (.ref c3)) (h4:mg "NoKeep"=some (.ref c4)) (h5:mg "NoMore"=some (.ref c5)) (h6:mg "NoName"=some (.ref c6)) (h7:mg "NoOrder"=some (.ref c7)) (h8:mg "NoPlan"=some (.ref c8)) (h9:mg "NoRow"=some (.ref c9)) (h10:mg "NoText"=some (.ref c10)) (h11:mg "NoTurn"=some (.ref c11)) :
  Kn P w K mg base (k+1) "_law_is_no_tree" (spNT K C):=by
 obtain⟨f,fd,F0,hm⟩:=D.ex
 refine⟨f,fd,["_law_caught"],?_,F0.binds (fun _ _ _ _ _ _ us hl=>match us,hl with | [_],_=>rfl),F0.kp,hm⟩
 refine F0.ok zbN (fun vs H Q E h=>?_) fun cdv A outer s H vs Q E hr h=>?_
 ·obtain⟨a,rfl,_⟩:=h;rfl
 refine⟨_,zah (zcR (pt_val (zaw zeH (by rfl) B.isinstance PyProof.Rows.boot_isinstance (zad (pv 0) (zad (pe_tup
   (zad (zaC rfl h1 (v:=.ref c1) rfl) (zad (zaC rfl h2 (v:=.ref c2) rfl) (zad (zaC rfl h3 (v:=.ref c3) rfl) (zad (zaC rfl h4 (v:=.ref c4) rfl) (zad (zaC rfl h5 (v:=.ref c5) rfl) (zad (zaC rfl h6 (v:=.ref c6) rfl)
   (zad (zaC rfl h7 (v:=.ref c7) rfl) (zad (zaC rfl h8 (v:=.ref c8) rfl) (zad (zaC rfl h9 (v:=.ref c9) rfl) (zad (zaC rfl h10 (v:=.ref c10) rfl) (zad (zaC rfl h11 (v:=.ref c11) rfl) pa_nil)))))))))))) pa_nil)))) (zak (zaV pe_bl)) pss_nil)
  (zak (zaV (pe_and (zaw zcj (by rfl) B.isinstance PyProof.Rows.boot_isinstance (zad (pv 0) (zad (zaC rfl Z.no (v:=.ref C) rfl) pa_nil)))
   (pe_one (zaw zcj (by rfl) B.isinstance PyProof.Rows.boot_isinstance (zad (pv 0) (zad (pe_bltn rfl B.ValueError (v:=.ty "ValueError") (by decide +kernel) rfl) pa_nil))))))),?_⟩
 obtain⟨e,rfl,he,q⟩:=h
 refine⟨_,rfl,by show 11≤sizeLine;decide,fun p hp=>?_⟩
 have s2:=zam hp (.tup [.ref c1,.ref c2,.ref c3,.ref c4,.ref c5,.ref c6,.ref c7,.ref c8,.ref c9,.ref c10,.ref c11])
 refine⟨e,C,p,_,false,rfl,s2 _ _ he,zab,Z.z,fun us hu=>?_,?_⟩
 ·rw[zdZ (cs:=[c1,c2,c3,c4,c5,c6,c7,c8,c9,c10,c11]) hu]
  exact Z.ka
 refine⟨false,rfl,iteF ?_⟩
 have he2:=s2 _ _ he
 generalize upd H p _=H2 at he2 s2
 refine⟨_,rfl,e,C,_,true,rfl,he2,Z.z,fun u ru=>?_,true,rfl,iteT ?_⟩
 ·cases (show u=Value.ref C from ru)
  unfold PySem.W.kitOne
  rw[if_pos (by simp)]
 refine⟨_,rfl,e,C,_,true,rfl,he2,Z.z,fun u ru=>?_,?_⟩
 ·cases (show u=Value.type "ValueError" from ru)
  exact Z.kv
 exact q _ s2
end
open PySem L2
def tRef (C:Addr):GT:=fun xs S P=>∃ (dx:Addr) (m:Nat) (n:Int) (top:PV) (ps:List Pr) (wy:Int) (p:Pr),xs=[.o (.ins C dx (tf m top n)),.v (.int wy),.v p.pv]∧S=none∧TP m ps top∧p.r.length≤900∧((wy=0∧p∈ps)∨(wy=1∧p∉ps))∧P (.bl true) [.ins C dx (tf m top n)] none
section
variable {P:Program}{w:World}{K:PySem.W.Frag}{mg:Str→Option Value}{base:Heap}{m:Nat}
theorem sc__law_refused:FnScope ["_law_tree","_law_way","_law_pair_here","_law_caught","e"] ["_law_tree","_law_way","_law_pair_here"] (defScope zaT):=⟨rfl,rfl,rfl,by decide +kernel,rfl,by decide +kernel,by decide +kernel⟩
theorem zcU {k:Nat}{C D Dp:Addr} (Df:Df K mg "_law_refused" zaT) (B:Bt mg) (Cl:Cls K C) (XP:KnMX P w K mg base k C "put" (spMX K C gPutX D)) (XT:KnMX P w K mg base k C "take" (spMX K C gTakeX D)) (F:Kn P w K mg base k "_law_is_no_tree" (spNT K D))
  (pe:mg "PlanError"=some (.ref Dp)) (em:ExM K D Dp):Kn P w K mg base (k+1) "_law_refused" (spG K (tRef C)):=by
 obtain⟨f,fd,F0,hm⟩:=Df.ex
 obtain⟨fp,fpd,fpp,FP,bp,mp⟩:=XP.ex
 obtain⟨ft,ftd,ftp,FT,bt,mt⟩:=XT.ex
 obtain⟨fn,fnd,fnp,FN,bn,kn,mn⟩:=F.ex
 have nd:=sc__law_refused.nd
 refine⟨f,fd,["_law_tree","_law_way","_law_pair_here"],?_,F0.binds (fun _ _ _ _ _ _ us hl=>match us,hl with | [_,_,_],_=>rfl),F0.kp,hm⟩
 refine F0.ok sc__law_refused (fun vs H Q E h=>?_) fun cdv A outer s H vs Q E hr h=>?_
 ·obtain⟨B,ss,S,P,_,R,⟨_,_,_,_,_,_,_,e,_⟩,_⟩:=h
  have l1:=R.len
  have l2:=congrArg List.length e
  simp at l1 l2
  simp [l1,l2]
 refine⟨_,zah (zas (K:=K) (i:=3) nd v0)
  (zah (ps_tryB rfl rfl rfl (fun pins E'=>zak (zcR (t_eq (K:=K) rfl hr (qn 1) (qv vi)) (zak (zdv (zdC (zat (i:=0) rfl (Or.inl rfl)) Cl mp FP hr bp .nil passT (ac (K:=K) (zaf rfl hr (qn 2) (qv vi)) (ac (zaf rfl hr (qn 2) (qv vi)) an))))) (zak (zdv (zdC (zat (i:=0) rfl (Or.inl rfl)) Cl mt FT hr bt .nil passT (ac (K:=K) (zaf rfl hr (qn 2) (qv vi)) (ac (zaf rfl hr (qn 2) (qv vi)) an))))))) rfl pe nd (i:=4) rfl rfl (fun a=>zak (zaM (i:=3) nd rfl (Or.inl rfl) (pv 4))))
  (zah (zcR (zbz op_isN (pv 3) zfB (nomark _)) (zak (zaV pe_bl)) pss_nil)
  (zak (zaV (zaZ FN hr rfl mn kn bn .nil zbO (zad (pv 3) pa_nil)))))),?_⟩
 obtain⟨B0,ss,S,P0,np,R,⟨dx,m,n,top,ps,wy,p,e,rfl,tp,lp,hw,hP⟩,fin⟩:=h
 obtain⟨ad,ss,rfl,e,np⟩:=ag_o e np
 obtain⟨ss,rfl,e,np⟩:=ag_v e np
 obtain⟨ss,rfl,e,np⟩:=ag_v e np
 cases ag_0 e
 have ll:vs.length=3:=by simpa using R.len
 have R0:Rep K H (L2.start ["_law_tree","_law_way","_law_pair_here","_law_caught","e"] vs) ⟨B0,[some (.own ad (.ins C dx (tf m top n))),some (.val (.int wy)),some (.val p.pv),none,none],none⟩:=by
  have:=R.more (n:=2)
  unfold L2.start
  rw[ll]
  exact this
 have nt:∀ s∈([some (.val (.int wy)),some (.val p.pv)]:List (Option Sl)),∀ a c,s≠some (.own a c):=fun s hs a c=>by
  simp only[List.mem_cons,List.not_mem_nil,or_false] at hs
  rcases hs with rfl | rfl<;>(intro z;cases z)
 have nt1:∀ s∈([some (.val (.int wy)),some (.val p.pv),some (.val .non),none]:List (Option Sl)),∀ a c,s≠some (.own a c):=fun s hs a c=>by
  simp only[List.mem_cons,List.not_mem_nil,or_false] at hs
  rcases hs with rfl | rfl | rfl | rfl<;>(intro z;cases z)
 have nt0:∀ s∈([some (.val (.int wy)),some (.val p.pv),none,none]:List (Option Sl)),∀ a c,s≠some (.own a c):=fun s hs a c=>by
  simp only[List.mem_cons,List.not_mem_nil,or_false] at hs
  rcases hs with rfl | rfl | rfl | rfl<;>(intro z;cases z)
 have an0:AN (AG B0 [.own ad (.ins C dx (tf m top n)),.val (.int wy),.val p.pv] none)=NP B0 ad:=funext fun a=>propext (or_congr Iff.rfl (zfE nt))
 have an1:AN ⟨B0,[some (.own ad (.ins C dx (tf m top n))),some (.val (.int wy)),some (.val p.pv),some (.val .non),none],none⟩=NP B0 ad:=funext fun a=>propext (or_congr Iff.rfl (zfE nt1))
 have fin':∀ H' ws',But ad H H'→H' ad=some (.ins C dx ws')→RFs K (NP B0 ad) H' (tf m top n) ws'→Q (.bl true) H':=fun H' ws' b h1 h2=>by
  obtain⟨R2,S2⟩:=R.turnC (i:=0) (c':=.ins C dx (tf m top n)) rfl b ⟨ws',h1,by rw[an0];exact h2⟩
  exact fin _ _ _ none _ H' hP (.o (.v (.v .nil))) R2 S2 (.bl true)
 have tl:∀ (H' H5:Hp) (ws':List (Str×V)),But ad H H'→H' ad=some (.ins C dx ws')→RFs K (NP B0 ad) H' (tf m top n) ws'→Same H' H5→Q (.bl true) H5:=fun H' H5 ws' b h1 h2 s5=>fin' H5 ws' (fun c o hc nc=>s5 c o (b c o hc nc)) (s5 _ _ h1) (h2.imp (zan s5))
 refine⟨_,{ nx:=fun A1=>A1=⟨B0,[some (.own ad (.ins C dx (tf m top n))),some (.val (.int wy)),some (.val p.pv),some (.val .non),none],none⟩,rt:=fun _ _=>False,rf:=fun _ _=>False },R0,rfl,⟨fun A1 σ1 H1 e R1 S1=>?_,fun _ _ _ _ _ h=>h.elim,fun _ _ _ _ _ _ h=>h.elim,fun _ _ _ _ _ _ _ _ h=>h.elim,fun _ _ _ h=>h.elim,fun _ _ _ h=>h.elim⟩⟩
 subst e
 refine⟨_,fun b A2=>b=decide (wy=0)∧A2=⟨B0,[some (.own ad (.ins C dx (tf m top n))),some (.val (.int wy)),some (.val p.pv),some (.val .non),none],none⟩,R1,?_,fun b A2 H2 ⟨e1,e2⟩ R2 S2=>?_⟩
 ·walk_at "pv"
  exact Bool.eq_iff_iff.mpr (by simp)
 ·subst e1
  subst e2
  rcases hw with ⟨rfl,hp⟩ | ⟨rfl,hp⟩
  ·refine iteT ?_
   obtain⟨v,ev,rfl,nb,ws,h1,h2⟩:=R2.sl 0 _ rfl
   refine⟨_,ev,ad,dx,ws,rfl,h1,zbr h2.1 "put" tf_put,?_⟩
   refine⟨_,fun xs A3=>xs=[rowP p.r,.int p.k]∧A3=⟨B0,[some (.own ad (.ins C dx (tf m top n))),some (.val (.int 0)),some (.val p.pv),some (.val .non),none],none⟩,R2,?_,fun xs A3 vs3 H3 ⟨e1,e2⟩ R3 S3 rs=>?_⟩
   ·simp only[Pr.pv]
    walk_at "pv"
   subst e1
   subst e2
   rw[List.append_nil]
   refine spMX_of (i:=0) R3 rfl rs ⟨m,n,top,ps,p,rfl,tp,rfl,lp,hp⟩ fun e H' ws' b h3 h4=>?_
   refine⟨e,D,rfl,rfl,em,fun na σ' ls=>?_⟩
   rw[an1] at h4
   have ls5:σ'.length=5:=ls
   have b0:But ad H H':=fun c o hc nc=>b c o ((S1.trans (S2.trans S3)).fr c o hc (fun m=>m.elim (fun z=>nc ((zfE nt0).mp z)) fun⟨st,z,_⟩=>by cases z)) nc
   have s1:=zam na (ExO e D)
   have he:upd H' e (ExO e D) e=some (ExO e D):=zab
   generalize upd H' e (ExO e D)=H4 at s1 he
   refine⟨.ref e,by simp [ls5],?_⟩
   refine⟨.ref e,by simp [ls5],rfl,false,by simp,iteF ?_⟩
   exact⟨.ref e,by simp [ls5],e,rfl,he,fun H5 s5=>tl H' H5 ws' b0 h3 h4 (s1.trans s5)⟩
  ·refine iteF ?_
   obtain⟨v,ev,rfl,nb,ws,h1,h2⟩:=R2.sl 0 _ rfl
   refine⟨_,ev,ad,dx,ws,rfl,h1,zbr h2.1 "take" tf_take,?_⟩
   refine⟨_,fun xs A3=>xs=[rowP p.r,.int p.k]∧A3=⟨B0,[some (.own ad (.ins C dx (tf m top n))),some (.val (.int 1)),some (.val p.pv),some (.val .non),none],none⟩,R2,?_,fun xs A3 vs3 H3 ⟨e1,e2⟩ R3 S3 rs=>?_⟩
   ·simp only[Pr.pv]
    walk_at "pv"
   subst e1
   subst e2
   rw[List.append_nil]
   refine spMX_of (i:=0) R3 rfl rs ⟨m,n,top,ps,p,rfl,tp,rfl,lp,hp⟩ fun e H' ws' b h3 h4=>?_
   refine⟨e,D,rfl,rfl,em,fun na σ' ls=>?_⟩
   rw[an1] at h4
   have ls5:σ'.length=5:=ls
   have b0:But ad H H':=fun c o hc nc=>b c o ((S1.trans (S2.trans S3)).fr c o hc (fun m=>m.elim (fun z=>nc ((zfE nt0).mp z)) fun⟨st,z,_⟩=>by cases z)) nc
   have s1:=zam na (ExO e D)
   have he:upd H' e (ExO e D) e=some (ExO e D):=zab
   generalize upd H' e (ExO e D)=H4 at s1 he
   refine⟨.ref e,by simp [ls5],?_⟩
   refine⟨.ref e,by simp [ls5],rfl,false,by simp,iteF ?_⟩
   exact⟨.ref e,by simp [ls5],e,rfl,he,fun H5 s5=>tl H' H5 ws' b0 h3 h4 (s1.trans s5)⟩
structure KnIX (P:Program) (w:World) (K:PySem.W.Frag) (mg:Str→Option Value) (base:Heap) (k:Nat) (y:Str) (C:Addr) (sp:Sp):Prop where
 ex:∃ f fd ps,FnOk P w K mg base (CXe P w) k f fd ps sp∧Binds K fd ps []∧Mk K C f∧mg y=some (.ref C)
def rNot (x r:PV):Prop:=BadM x∧r=.bl true
theorem sc__law_not_made:FnScope ["_law_thing","_law_caught","e"] ["_law_thing"] (defScope zaQ):=⟨rfl,rfl,rfl,by decide +kernel,rfl,by decide +kernel,by decide +kernel⟩
theorem zcI {k:Nat}{C D Dp:Addr} (Df:Df K mg "_law_not_made" zaQ) (B:Bt mg) (XI:KnIX P w K mg base k "Tree" C (spMX K C gInitX D)) (F:Kn P w K mg base (k+1) "_law_is_no_tree" (spNT K D)) (pe:mg "PlanError"=some (.ref Dp)) (em:ExM K D Dp):Kn P w K mg base (k+2) "_law_not_made" (spV K false (Rl1 rNot)):=by
 obtain⟨f,fd,F0,hm⟩:=Df.ex
 obtain⟨fi,fid,fip,FI,bi,mk,mi⟩:=XI.ex
 obtain⟨fn,fnd,fnp,FN,bn,kn,mn⟩:=F.ex
 have nd:=sc__law_not_made.nd
 refine⟨f,fd,["_law_thing"],?_,F0.binds (fun _ _ _ _ _ _ us hl=>match us,hl with | [_],_=>rfl),F0.kp,hm⟩
 refine F0.ok sc__law_not_made (fun vs H Q E h=>?_) fun cdv A outer s H vs Q E hr h=>?_
 ·obtain⟨_,xs,_,_,rv,g,_⟩:=h
  rw[← rv.len];exact Rl1.len g
 refine⟨_,zah (zaM (i:=1) nd rfl (Or.inl rfl) zfB)
  (zah (ps_tryB rfl rfl rfl (fun pins E'=>zak (zdv (pe_make mk FI hr rfl mi bi .nil passT (zad (pv 0) pa_nil)))) rfl pe nd (i:=2) rfl rfl (fun a=>zak (zaM (i:=1) nd rfl (Or.inl rfl) (pv 2))))
  (zak (zaV (pe_and (pe_cmpR zeV (pv 1) zfB (nomark _)) (pe_one (zaZ FN hr rfl mn kn bn .nil zbO (zad (pv 1) pa_nil))))))),?_⟩
 obtain⟨B0,xs,r,dom,rv,g,q⟩:=h
 obtain⟨x0,rfl,bad,rfl⟩:=g
 cases rv with
 | @cons _ v0 _ vs r0 rv=>
 cases rv with
 | nil=>
 refine⟨_,rfl,fun x dx hx hdx ne=>?_⟩
 have s2:Same H (upd (upd H dx (.own x)) x (.ins C dx [])):=fun b o e=>by rw[zac (zae e hx),zac (zae e hdx)];exact e
 have kp0:KeepV K B0 (NP B0 x) H (upd (upd H dx (.own x)) x (.ins C dx [])):=⟨(zan (K:=K) (N:=B0) s2).t,fun a o n e=>⟨fun z=>z.elim n fun y=>(zae e hx) y,s2 a o e⟩⟩
 refine⟨B0,x,dx,[],[],[x0],[v0],rfl,fun a h z=>?_,fun h=>dom x h hx,zab,⟨rfl,.nil⟩,(RVs.cons r0 .nil).imp kp0,⟨x0,rfl,bad⟩,fun e H' ws' b h3 h4=>?_⟩
 ·cases e:H a with
  | none=>exact dom a h e
  | some o=>rw[s2 a o e] at z;cases z
 refine⟨e,D,rfl,rfl,em,fun na σ' ls=>?_⟩
 have ls5:σ'.length=3:=ls
 have s0:Same H H':=fun c o hc=>b c o (s2 c o hc) (zae hc hx)
 have s1:=zam na (ExO e D)
 have he:upd H' e (ExO e D) e=some (ExO e D):=zab
 generalize upd H' e (ExO e D)=H4 at s1 he
 refine⟨.ref e,by simp [ls5],?_⟩
 refine⟨.ref e,by simp [ls5],rfl,true,rfl,iteT ?_⟩
 exact⟨.ref e,by simp [ls5],e,rfl,he,fun H5 s5=>q _ _ ⟨s0.trans (s1.trans s5),.bl true⟩⟩
end
open PySem L2
def tDeed (C:Addr):GT:=fun xs S P=>∃ (st:SSt) (dx:Addr) (m:Nat) (top:PV) (ps held:List Pr) (k mny:Int),xs=[.v (.raw (.ref st.d)),.o (.ins C dx (tf m top ps.length)),.o (.lst (held.map Pr.pv)),.v (.int k),.v (.int mny)]∧S=some st∧3≤m∧m≤9∧Hld m held ps top∧held.length<63∧st.n≤80000∧0≤k∧k<mny∧mny≤60 ∧
 ∀ (held' ps':List Pr) (top':PV) (st':SSt),Hld m held' ps' top'→held'.length≤held.length+1→Nx st 20 st'→P (.bl true) [.ins C dx (tf m top' ps'.length),.lst (held'.map Pr.pv)] (some st')
theorem zdF {C:Addr}{xs:List Ag}{S:Option SSt}{P:PV→List OC→Option SSt→Prop} (h:tDeed C xs S P):xs.length=5:=by
 obtain⟨_,_,_,_,_,_,_,_,rfl,_⟩:=h
 rfl
section
variable {P:Program}{w:World}{K:PySem.W.Frag}{mg:Str→Option Value}{base:Heap}{m:Nat}
theorem sc__law_deed:FnScope ["_law_state","_law_tree","_law_held","_law_k","_law_many","_law_pair_here","_law_way"] ["_law_state","_law_tree","_law_held","_law_k","_law_many"] (defScope zbH):=⟨rfl,rfl,rfl,by decide +kernel,rfl,by decide +kernel,by decide +kernel⟩
theorem zfg {k:Nat}{C:Addr} (D:Df K mg "_law_deed" zbH) (B:Bt mg) (Cl:Cls K C) (M_take:KnM P w K mg base k C "take" (spM K C false (Mr2 rMTake))) (M_put:KnM P w K mg base k C "put" (spM K C false (Mr2 rMPut))) (F__law_pair:Kn P w K mg base k "_law_pair" (spS K false (Tr1 tPair))) (F__law_refused:Kn P w K mg base k "_law_refused" (spG K (tRef C))) (F__law_take:Kn P w K mg base k "_law_take" (spS K false (Tr2 zcr))):Kn P w K mg base (k+1) "_law_deed" (spG K (tDeed C)):=by
 refine D.okG sc__law_deed (fun _ _ _ _ _ _ us hl=>match us,hl with | [_,_,_,_,_],_=>rfl) (fun _ _ _=>zdF) (fun f cdv A outer s H E hr=>⟨_,(sc (zas (i:=5) sc__law_deed.nd (zaO rfl F__law_pair hr (ac (vn 0) an)))
  (sc (zas (i:=6) sc__law_deed.nd (e_int B.int (qv (e_lt (qv (zaO rfl F__law_take hr (ac (vn 0) (ac vi an)))) (qv (zaf rfl hr (qf (el (ac vi (ac vi (ac vi an))))) (qv (e_div (qv (e_mul (qv vi) (qn 3))) (qn 4)))))))))
  (sc (s_if (PW.pt (t_and (t_ne rfl hr (qn 2) (qf (el an))) (zcX (t_eq rfl hr (qv (zaO rfl F__law_take hr (ac (vn 0) (ac vi an)))) (qv vi))))) (s1 (zas (i:=5) sc__law_deed.nd (zaf rfl hr (qn 2) (qv (zaO rfl F__law_take hr (ac (vn 0) (ac (zbd rfl B.len (qn 2)) an))))))) sn)
  (sc (s_if (PW.pt (t_or (PW.pt (t_and (t_eq rfl hr (qn 6) (qv vi)) (zcX (t_inA rfl hr (qn 5) (qn 2))))) (zbR (PW.pt (t_and (t_eq rfl hr (qn 6) (qv vi)) (zcX (t_ninA rfl hr (qn 5) (qn 2)))))))) (s1 (zal (zdT false rfl F__law_refused hr (agm 1 (agv (vn 6) (agv (vn 5) agn)))))) sn)
  (sc (s_if (t_eq rfl hr (qn 6) (qv vi)) (sc (zcf (e_app rfl 2 (vn 5)))
  (s1 (zal (e_is (qv (zch rfl 1 Cl M_put hr (ac (zaf rfl hr (qn 5) (qv vi)) (ac (zaf rfl hr (qn 5) (qv vi)) an)))) (qv v0))))) sn)
  (sc (zcf (e_remove rfl hr 2 (vn 5)))
  (s1 (zal (e_is (qv (zch rfl 1 Cl M_take hr (ac (zaf rfl hr (qn 5) (qv vi)) (ac (zaf rfl hr (qn 5) (qv vi)) an)))) (qv v0)))))))))),fun B' ss S Q h np=>?_⟩)
 obtain⟨st,dx,m,top,ps,held,kk,mny,e,rfl,h3,h9,hh,hl63,hn,hk0,hkm,hm60,hP⟩:=h
 obtain⟨ss,rfl,e,np⟩:=ag_v e np
 obtain⟨ad,ss,rfl,e,np⟩:=ag_o e np
 obtain⟨ah,ss,rfl,e,np⟩:=ag_o e np
 obtain⟨ss,rfl,e,np⟩:=ag_v e np
 obtain⟨ss,rfl,e,np⟩:=ag_v e np
 cases ag_0 e
 obtain⟨d,a,n,D⟩:=st
 have hn':n≤80000:=hn
 change (_:US) (endsG _ Q) ⟨B',[some (.val (.raw (.ref d))),some (.own ad (.ins C dx (tf m top ps.length))),some (.own ah (.lst (held.map Pr.pv))),some (.val (.int kk)),some (.val (.int mny)),none,none],some ⟨d,a,n,D⟩⟩
 obtain⟨T,mem,nd,len,few,lens⟩:=hh
 have T':=T
 obtain⟨fw,srt,tp⟩:=T'
 generalize hW:uSeq (uIf (uOr (uAnd (u2t (gEq false) (uPk 6) (uC (PV.int 0))) (u2t (gInA false) (uPk 5) (uPk 2))) (uAnd (u2t (gEq false) (uPk 6) (uC (PV.int 1))) (u2t (gInA true) (uPk 5) (uPk 2)))) (uRet (uCallG (tRef C) false (uGn 1 (uGv (uVar 6) (uGv (uVar 5) uGnil))))) uNext) (uSeq (uIf (u2t (gEq false) (uPk 6) (uC (PV.int 0))) (uSeq (uDrop (uApp 2 (uVar 5))) (uRet (u2 gIs0 (uMeth C 1 (Str.ofString "put") (Mr2 rMPut) (uCons (u2 gIxA (uPk 5) (uC (PV.int 0))) (uCons (u2 gIxA (uPk 5) (uC (PV.int 1))) uNil))) (uC PV.non)))) uNext) (uSeq (uDrop (uRemove 2 (uVar 5))) (uRet (u2 gIs0 (uMeth C 1 (Str.ofString "take") (Mr2 rMTake) (uCons (u2 gIxA (uPk 5) (uC (PV.int 0))) (uCons (u2 gIxA (uPk 5) (uC (PV.int 1))) uNil))) (uC PV.non)))))=W
 have fin:∀ (p:Pr) (wy:Int) (m2:Nat),(wy=0∨wy=1)→p.r.length≤900→m2≤n+20→W (endsG [.val (.raw (.ref d)),.own ad (.ins C dx (tf m top ps.length)),.own ah (.lst (held.map Pr.pv)),.val (.int kk),.val (.int mny)] Q) ⟨B',[some (.val (.raw (.ref d))),some (.own ad (.ins C dx (tf m top ps.length))),some (.own ah (.lst (held.map Pr.pv))),some (.val (.int kk)),some (.val (.int mny)),some (.val p.pv),some (.val (.int wy))],some ⟨d,a,m2,D⟩⟩:=by
  intro p wy m2 hwy lp hm
  have hin:∀ ng,gInA ng p.pv (.lst (held.map Pr.pv)) (.bl (ng^^decide (p∈held))):=fun ng=>by
   rw[gInA_l,pin_pr]
   exact⟨nr_pr _,⟨2,by decide,zcW _,dp_prs held⟩,rfl⟩
  have nx:Nx ⟨d,a,n,D⟩ 20 ⟨d,a,m2,D⟩:=⟨m2,hm,rfl⟩
  rw[← hW]
  rcases hwy with rfl | rfl
  ·walk_at "pv"
   refine zaa _ (hin false) ?_
   refine zai (fun c=>?_) fun c=>?_
   ·have c':p∈held:=by simpa using c
    walk_at "pv"
    refine⟨by decide,?_⟩
    refine⟨dx,m,_,top,ps,0,p,rfl,rfl,T,lp,.inl ⟨rfl,(mem p).mp c'⟩,?_⟩
    walk_at "pv"
    exact hP held ps top _ ⟨T,mem,nd,len,few,lens⟩ (by omega) nx
   ·have c':p∉held:=by simpa using c
    have ep:p.pv=.tup [rowP p.r,.int p.k]:=rfl
    have e2:held.map Pr.pv++[PV.tup [rowP p.r,.int p.k]]=(held++[p]).map Pr.pv:=by rw[List.map_append];rfl
    walk_at "pv"
    rw[ep]
    walk_at "pv"
    rw[e2]
    refine⟨by rw[List.length_map];omega,_,_,rfl,m,_,top,ps,p,rfl,h3,h9,T,rfl,rfl,lp,fun z=>c' ((mem p).mpr z),by omega,fun top' htp=>?_⟩
    walk_at "pv"
    have hl:((ins ps p).length:Int)=ps.length+1:=by rw[zcK];rfl
    rw[← hl]
    refine hP (held++[p]) (ins ps p) top' _ ⟨htp,fun q=>?_,?_,?_,?_,fun q hq=>?_⟩ (by simp) nx
    ·rw[ins_mem,List.mem_append,List.mem_singleton,mem]
     exact Or.comm
    ·exact List.nodup_append.mpr ⟨nd,by simp,fun p1 hp q hq z=>c' (by rw[List.mem_singleton] at hq;rw[← hq,← z];exact hp)⟩
    ·rw[zcK,List.length_append,len];rfl
    ·rw[List.length_append]
     show held.length+1<64
     omega
    ·rcases List.mem_append.mp hq with h | h
     ·exact lens q h
     ·rw[List.mem_singleton] at h
      subst h
      exact lp
  ·walk_at "pv"
   refine zaa _ (hin true) ?_
   refine zai (fun c=>?_) fun c=>?_
   ·have c':p∉held:=by simpa using c
    walk_at "pv"
    refine⟨by decide,?_⟩
    refine⟨dx,m,_,top,ps,1,p,rfl,rfl,T,lp,.inr ⟨rfl,fun z=>c' ((mem p).mpr z)⟩,?_⟩
    walk_at "pv"
    exact hP held ps top _ ⟨T,mem,nd,len,few,lens⟩ (by omega) nx
   ·have c':p∈held:=by simpa using c
    have ep:p.pv=.tup [rowP p.r,.int p.k]:=rfl
    obtain⟨j,hj,hf⟩:=find_is c'
    obtain⟨e1,e2,e3⟩:=rem_is nd hj
    have hps:p∈ps:=(mem _).mp c'
    have fl:=fil_len (zeh srt) hps
    have ee:(held.map Pr.pv).eraseIdx j=(held.eraseIdx j).map Pr.pv:=by rw[List.eraseIdx_eq_take_drop_succ,List.eraseIdx_eq_take_drop_succ,List.map_append,List.map_take,List.map_drop]
    walk_at "pv"
    refine⟨j,⟨2,by decide,zcW p,dp_prs held⟩,⟨p.pv,by rw[List.getElem?_map,hj];rfl,by rw[zda];simp⟩,fun k y hk hy=>?_,?_⟩
    ·rw[List.getElem?_map] at hy
     obtain⟨q,hq,rfl⟩:=Option.map_eq_some_iff.mp hy
     rw[zda]
     exact decide_eq_false (hf k q hk hq)
    rw[ee,ep]
    walk_at "pv"
    refine⟨_,_,rfl,m,_,top,ps,p,rfl,h3,h9,T,rfl,rfl,lp,hps,fun top' htp=>?_⟩
    walk_at "pv"
    have hl:((ps.filter fun q=>decide (q≠p)).length:Int)=ps.length-1:=by omega
    rw[← hl]
    refine hP (held.eraseIdx j) _ top' _ ⟨htp,fun q=>?_,e2,by omega,by omega,fun q hq=>lens q ((e1 q).mp hq).1⟩ (by omega) nx
    rw[e1,mem,List.mem_filter,decide_eq_true_iff]
 walk_at "pv"
 refine⟨(by show n≤90000;omega),fun p st' lp hst=>?_⟩
 obtain⟨m1,hm1,rfl⟩:=hst
 have hm1':m1≤n+6:=hm1
 walk_at "pv"
 refine draw (by omega) (by decide) (by decide) fun r r0 r1=>?_
 walk_at "pv"
 have ix:∃ c:Int,atI [PV.int 1,PV.int 2,PV.int 3] (3*kk / mny)=some (.int c):=by
  have q0:0≤3*kk / mny:=Int.ediv_nonneg (by omega) (by omega)
  have q1:3*kk / mny<3:=Int.ediv_lt_of_lt_mul (by omega) (by omega)
  have:3*kk / mny=0∨3*kk / mny=1∨3*kk / mny=2:=by omega
  rcases this with e | e | e<;>(rw[e];exact⟨_,rfl⟩)
 obtain⟨c,ix⟩:=ix
 refine⟨.inl ⟨by decide,by decide⟩,⟨by omega,Int.lt_of_le_of_lt hm60 (by decide)⟩,zaa _ ix ?_⟩
 walk_at "pv"
 have wy:(if decide (r<c)=true then (1:Int) else 0)=0∨(if decide (r<c)=true then (1:Int) else 0)=1:=by
  by_cases h:decide (r<c)=true
  ·rw[if_pos h];exact .inr rfl
  ·rw[if_neg h];exact .inl rfl
 refine zaa _ ⟨⟨3,by decide,zaP held,zaP []⟩,rfl⟩ ?_
 refine zai (fun c1=>?_) fun c1=>?_
 ·have ne:0<held.length:=by
   cases held with
   | nil=>simp [peq,peqs] at c1
   | cons _ _=>simp
  walk_at "pv"
  refine draw (by omega) (by decide) (by decide) fun r2 r20 r21=>?_
  walk_at "pv"
  refine zai (fun c2=>?_) fun c2=>?_
  ·walk_at "pv"
   refine draw (by omega) (by rw[List.length_map];omega) (by rw[List.length_map];refine Int.lt_of_le_of_lt (b:=90) (by omega) (by decide)) fun r3 r30 r31=>?_
   rw[List.length_map] at r31
   obtain⟨j,rfl⟩:=Int.eq_ofNat_of_zero_le r30
   have hlt:j<held.length:=by omega
   walk_at "pv"
   refine zaa _ (show _=some held[j].pv from atI_map hlt) ?_
   walk_at "pv"
   exact fin held[j] _ _ wy (lens _ (List.getElem_mem hlt)) (by omega)
  ·walk_at "pv"
   exact fin p _ _ wy (by omega) (by omega)
 ·walk_at "pv"
  exact fin p _ _ wy (by omega) (by omega)
end
set_option maxHeartbeats 8000000
open PySem L2
def pn (x:Int):Pr:=⟨[.i x],x⟩
def tw (dd:List Int):List Pr:=dd.foldl (fun l x=>ins l (pn x)) []
theorem tw_app (dd:List Int) (x:Int):tw (dd++[x])=ins (tw dd) (pn x):=by unfold tw;rw[List.foldl_append];rfl
theorem tw_no {dd r:List Int}{x:Int} (e:[7,5,6]=dd++x::r):pn x∉tw dd∧dd.length≤3∧(tw dd).length≤3:=by
 match dd,e with
 | [],e=>simp at e;rw[← e.1];exact⟨by decide,by decide,by decide⟩
 | [a],e=>simp at e;rw[← e.1,← e.2.1];exact⟨by decide,by decide,by decide⟩
 | [a,b],e=>simp at e;rw[← e.1,← e.2.1,← e.2.2.1];exact⟨by decide,by decide,by decide⟩
 | a::b::c::dd,e=>
  have:=congrArg List.length e
  simp at this
theorem bad_at {r:Int} (h0:0≤r) (h1:r<9):∃ x:PV,atI [PV.int 2,PV.int 10,PV.int 0,PV.int (-3),PV.bl true,PV.non,PV.str (Str.ofString "4"),PV.tup [PV.int 4],PV.int (10 ^ Int.toNat 29)] r=some x∧BadM x:=by
 have h:r=0∨r=1∨r=2∨r=3∨r=4∨r=5∨r=6∨r=7∨r=8:=by omega
 rcases h with rfl | rfl | rfl | rfl | rfl | rfl | rfl | rfl | rfl
 ·exact⟨_,rfl,.inl ⟨_,rfl,.inl (by decide)⟩⟩
 ·exact⟨_,rfl,.inl ⟨_,rfl,.inr (by decide)⟩⟩
 ·exact⟨_,rfl,.inl ⟨_,rfl,.inl (by decide)⟩⟩
 ·exact⟨_,rfl,.inl ⟨_,rfl,.inl (by decide)⟩⟩
 ·exact⟨_,rfl,.inr (.inr (.inl ⟨_,rfl⟩))⟩
 ·exact⟨_,rfl,.inr (.inl rfl)⟩
 ·exact⟨_,rfl,.inr (.inr (.inr (.inl ⟨_,rfl⟩)))⟩
 ·exact⟨_,rfl,.inr (.inr (.inr (.inr ⟨_,rfl⟩)))⟩
 ·exact⟨_,rfl,.inl ⟨_,rfl,.inr (by decide)⟩⟩
theorem tp_nil (m:Nat):TP m [] .non:=⟨⟨by decide,fun q h=>by cases h⟩,by simp,.inl ⟨rfl,rfl⟩⟩
section
variable {P:Program}{w:World}{K:PySem.W.Frag}{mg:Str→Option Value}{base:Heap}
def spLaw (K:PySem.W.Frag):Sp:=fun vs H Q _=>∃ (a:Addr) (ns:List Int),vs=[.ref a]∧Only H∧SqL K H a (ns.map V.int)∧ns.length≤63∧∀ H',Q (.bl true) H'
theorem sc_law:FnScope ["_law_script","_law_state","_law_most","_law_many","_law_tree","_law_twin","_law_number","_law_held","_law_k","_law_pair_here"] ["_law_script"] (defScope d_law):=⟨rfl,rfl,rfl,by decide +kernel,rfl,by decide +kernel,by decide +kernel⟩
theorem k_law {k0:Nat}{C:Addr}{f:Addr}{fd:FuncData} (F:Fun K "law" "law" d_law f fd) (B:Bt mg) (Be:Kn P w K mg base (k0+2) "_law_begin" (spBegin K)) (Cl:Cls K C) (M_put:KnM P w K mg base (k0+2) C "put" (spM K C false (Mr2 rMPut))) (M_take:KnM P w K mg base (k0+2) C "take" (spM K C false (Mr2 rMTake))) (M_pairs:KnM P w K mg base (k0+2) C "pairs" (spM K C true (Mr0 rMPairs))) (I_Tree:KnI P w K mg base (k0+1) "Tree" C (spM K C false (Mr1 rInit))) (F__law_not_made:Kn P w K mg base (k0+2) "_law_not_made" (spV K false (Rl1 rNot))) (F__law_take:Kn P w K mg base (k0+2) "_law_take" (spS K false (Tr2 zcr))) (F__law_stands:Kn P w K mg base (k0+2) "_law_stands" (spG K (tStands C))) (F__law_deed:Kn P w K mg base (k0+2) "_law_deed" (spG K (tDeed C))):FnOk P w K mg base CX0 (k0+3) f fd ["_law_script"] (spLaw K):=by
 refine F.ok sc_law (fun vs H Q E h=>by obtain⟨a,ns,rfl,_⟩:=h;rfl) (fun cdv A outer s H vs Q E hr h=>?_)
 obtain⟨a,ns,rfl,hO,hS,hl,q⟩:=h
 obtain⟨bf,bd,bps,bF,bb,bk,bm⟩:=Be.ex
 refine⟨_,zah (zaM (i:=1) sc_law.nd rfl (by first | exact Or.inl rfl | exact Or.inr rfl) (zaZ bF hr rfl bm bk bb .nil zbO (zad (pv 0) pa_nil))) (sc (zas (i:=2) sc_law.nd (zdU rfl (qv vi) (qv (zaO rfl F__law_take hr (ac (vn 1) (ac vi an))))))
  (sc (zas (i:=3) sc_law.nd (zdU rfl (qv vi) (qv (zaO rfl F__law_take hr (ac (vn 1) (ac vi an))))))
  (sc (s_make (i:=4) rfl I_Tree hr sc_law.nd (ac (vn 2) an))
  (sc (s_make (i:=5) rfl I_Tree hr sc_law.nd (ac (e_sub (qv vi) (qn 2)) an))
  (sc (s_for PassesOwn.never rfl (iv rfl (et (ac vi (ac vi (ac vi an))))) (g_n (i:=6) sc_law.nd)
  (s1 (zcf (zch rfl 5 Cl M_put hr (ac (et (ac (vn 6) an)) (ac (vn 6) an))))))
  (sc (s_own (i:=7) sc_law.nd (el an))
  (sc (s_for PassesOwn.never rfl (i_rng (by rfl) B.range (vn 3)) (g_n (i:=8) sc_law.nd)
  (s1 (s_if (PW.pt (t_or (zbw (zbc rfl (qv (zdT true rfl F__law_deed hr (agv (vn 1) (agm 4 (agm 7 (agv (vn 8) (agv (vn 3) agn))))))))) (zbR (zbw (zbc rfl (qv (zdT false rfl F__law_stands hr (agm 4 (agv (vn 2) (agm 7 (agv (e_eq rfl hr (qv (e_mod (qn 8) (qv vi))) (qv vi)) agn))))))))))) (s1 (zal vb)) sn)))
  (sc (zeQ PassesOwn.never (t_ne rfl hr (qn 7) (qf (el an)))
  (sc (zas (i:=9) sc_law.nd (e_popAt rfl 7 (zaO rfl F__law_take hr (ac (vn 1) (ac (zbd rfl B.len (qn 7)) an)))))
  (sc (zcf (zch rfl 4 Cl M_take hr (ac (zaf rfl hr (qn 9) (qv vi)) (ac (zaf rfl hr (qn 9) (qv vi)) an))))
  (s1 (s_if (zbw (zbc rfl (qv (zdT false rfl F__law_stands hr (agm 4 (agv (vn 2) (agm 7 (agv vb agn)))))))) (s1 (zal vb)) sn)))))
  (sc (s_if (t_ne rfl hr (qf (zdS rfl 5 Cl M_pairs hr)) (qf (el (ac (et (ac (et (ac vi an)) (ac vi an))) (ac (et (ac (et (ac vi an)) (ac vi an))) (ac (et (ac (et (ac vi an)) (ac vi an))) an)))))) (s1 (zal vb)) sn)
  (s1 (zal (zap rfl F__law_not_made hr (ac (zaf rfl hr (qf (el (ac vi (ac vi (ac vi (ac (e_neg vi) (ac vb (ac v0 (ac vs (ac (et (ac vi an)) (ac (e_pow (qv vi) (qv vi)) an))))))))))) (qv (zaO rfl F__law_take hr (ac (vn 1) (ac vi an))))) an))))))))))))),?_⟩
 refine⟨_,rfl,a,rfl,⟨ns,hS,hl⟩,fun d D H1 hd0 Wo S1 s1=>?_⟩
 refine law_rest hO hS hl S1 s1 8 ?_ q
 change (_:US) endsL ⟨fun b=>b=d,[some (.val (.raw (.ref a))),some (.val (.raw (.ref d))),none,none,none,none,none,none,none,none],some ⟨d,a,10,D⟩⟩
 walk_at "pv"
 refine draw (by omega) (by decide) (by decide) fun r0 r00 r01=>?_
 walk_at "pv"
 refine draw (by omega) (by decide) (by decide) fun r1 r10 r11=>?_
 walk_at "pv"
 obtain⟨j0,rfl⟩:=Int.eq_ofNat_of_zero_le r00
 obtain⟨j1,rfl⟩:=Int.eq_ofNat_of_zero_le r10
 refine⟨_,rfl,3+j0,(by rw[Int.natCast_add];rfl),by omega,by omega,rfl,rfl,fun tp dx=>?_⟩
 refine⟨_,rfl,9-j0,(by congr 1;omega),by omega,by omega,rfl,rfl,fun wp wdx=>?_⟩
 have hM3:3≤3+j0:=by omega
 have hM9:3+j0≤9:=by omega
 have hT3:3≤9-j0:=by omega
 have hT9:9-j0≤9:=by omega
 have eM:(3:Int)+(j0:Nat)=((3+j0:Nat):Int):=by omega
 have eN:(1:Int)+(j1:Nat)=((1+j1:Nat):Int):=by omega
 have hN:1+j1≤60:=by omega
 rw[eM,eN]
 generalize 3+j0=M at *
 generalize 9-j0=W at *
 generalize 1+j1=N at *
 refine for_m [7,5,6] PV.int (fun dd A=>∃ (top:PV) (o6:Option Sl),A=⟨fun b=>b=d,[some (.val (.raw (.ref a))),some (.val (.raw (.ref d))),some (.val (.int M)),some (.val (.int N)),some (.own tp (.ins C dx (tf M .non 0))),some (.own wp (.ins C wdx (tf W top dd.length))),o6,none,none,none],some ⟨d,a,12,D⟩⟩∧TP W (tw dd) top) ⟨_,_,rfl,tp_nil W⟩ (fun _ _ _=>trivial) ?_ ?_
 ·rintro dd x r A2 e ⟨top,o6,rfl,tpd⟩
  obtain⟨nx,ld,lt⟩:=tw_no e
  walk_at "pv"
  have ed:((dd++[x]).length:Int)=dd.length+1:=by simp
  rw[ed]
  exact⟨_,_,rfl,W,_,top,tw dd,pn x,rfl,hT3,hT9,tpd,rfl,rfl,(by show 1≤900;decide),nx,by omega,fun top' htp=>⟨top',_,rfl,by rw[tw_app];exact htp⟩⟩
 rintro A2 ⟨top2,o6,rfl,tpd⟩
 walk_at "pv"
 intro hp
 refine⟨by omega,by omega,?_⟩
 rw[Int.toNat_natCast]
 refine for_r N (fun i A=>∃ (held ps:List Pr) (top:PV) (nn:Nat) (o8:Option Sl),A=⟨fun b=>b=d,[some (.val (.raw (.ref a))),some (.val (.raw (.ref d))),some (.val (.int M)),some (.val (.int N)),some (.own tp (.ins C dx (tf M top ps.length))),some (.own wp (.ins C wdx (tf W top2 (3:Nat)))),o6,some (.own hp (.lst (held.map Pr.pv))),o8,none],some ⟨d,a,nn,D⟩⟩∧Hld M held ps top∧held.length≤i∧nn≤12+30*i) ⟨[],[],.non,12,_,rfl,⟨tp_nil M,fun q=>Iff.rfl,by simp,rfl,by decide,fun q h=>by cases h⟩,by simp,by omega⟩ (fun _ _ _=>trivial) ?_ ?_
 ·rintro i A2 hi ⟨held,ps,top,nn,o8,rfl,hh,hl,hn⟩
  walk_at "pv"
  refine⟨by decide,⟨d,a,nn,D⟩,dx,M,top,ps,held,i,N,rfl,rfl,hM3,hM9,hh,by omega,(by show nn≤80000;omega),by omega,by omega,by omega,fun held' ps' top' st' hh' hl' hst=>?_⟩
  obtain⟨n2,hn2,rfl⟩:=hst
  have hn3:n2≤nn+20:=hn2
  walk_at "pv"
  refine⟨by decide,dx,M,top',ps',held',_,rfl,rfl,hM3,hM9,hh',?_⟩
  walk_at "pv"
  exact⟨held',ps',top',n2,_,rfl,hh',by omega,by omega⟩
 rintro A2 ⟨held,ps,top,nn,o8,rfl,hh,hl,hn⟩
 walk_at "pv"
 refine⟨fun A=>∃ (held ps:List Pr) (top:PV) (nn:Nat) (o9:Option Sl),A=⟨fun b=>b=d,[some (.val (.raw (.ref a))),some (.val (.raw (.ref d))),some (.val (.int M)),some (.val (.int N)),some (.own tp (.ins C dx (tf M top ps.length))),some (.own wp (.ins C wdx (tf W top2 (3:Nat)))),o6,some (.own hp (.lst (held.map Pr.pv))),o8,o9],some ⟨d,a,nn,D⟩⟩∧Hld M held ps top∧held.length≤60∧nn+held.length≤5000,fun A=>match A.rho with | [_,_,_,_,_,_,_,some (.own _ (.lst l)),_,_]=>l.length | _=>0,⟨held,ps,top,nn,none,rfl,hh,by omega,by omega⟩,?_⟩
 rintro A1 ⟨held,ps,top,nn,o9,rfl,hh,hl,hn⟩
 obtain⟨T,mem,nd,len,few,lens⟩:=hh
 walk_at "pv"
 refine zaa _ ⟨⟨3,by decide,zaP held,zaP []⟩,rfl⟩ ?_
 refine zai (fun c=>?_) fun c=>?_
 ·have ne:0<held.length:=by
   cases held with
   | nil=>simp [peq,peqs] at c
   | cons _ _=>simp
  have srt:=T.2.1
  walk_at "pv"
  refine draw (by omega) (by rw[List.length_map];omega) (by rw[List.length_map];refine Int.lt_of_le_of_lt (b:=90) (by omega) (by decide)) fun r3 r30 r31=>?_
  rw[List.length_map] at r31
  obtain⟨j,rfl⟩:=Int.eq_ofNat_of_zero_le r30
  have hlt:j<held.length:=by omega
  have hj:held[j]?=some held[j]:=by simp [hlt]
  walk_at "pv"
  refine⟨j,held[j].pv,rfl,by omega,by rw[List.getElem?_map,hj];rfl,?_⟩
  have c':held[j]∈held:=List.getElem_mem hlt
  generalize held[j]=p at *
  obtain⟨e1,e2,e3⟩:=rem_is nd hj
  have hps:p∈ps:=(mem _).mp c'
  have fl:=fil_len (zeh srt) hps
  have ee:(held.map Pr.pv).eraseIdx j=(held.eraseIdx j).map Pr.pv:=by rw[List.eraseIdx_eq_take_drop_succ,List.eraseIdx_eq_take_drop_succ,List.map_append,List.map_take,List.map_drop]
  have ep:p.pv=.tup [rowP p.r,.int p.k]:=rfl
  rw[ee,ep]
  walk_at "pv"
  refine⟨_,_,rfl,M,_,top,ps,p,rfl,hM3,hM9,T,rfl,rfl,lens _ c',hps,fun top' htp=>?_⟩
  walk_at "pv"
  have hl2:((ps.filter fun q=>decide (q≠p)).length:Int)=ps.length-1:=by omega
  rw[← hl2]
  have hh2:Hld M (held.eraseIdx j) (ps.filter fun q=>decide (q≠p)) top':=⟨htp,fun q=>by rw[e1,mem,List.mem_filter,decide_eq_true_iff],e2,by omega,by omega,fun q hq=>lens q ((e1 q).mp hq).1⟩
  refine⟨by decide,dx,M,top',_,held.eraseIdx j,false,rfl,rfl,hM3,hM9,hh2,?_⟩
  walk_at "pv"
  refine⟨⟨held.eraseIdx j,_,top',nn+1,_,rfl,hh2,by omega,by omega⟩,?_⟩
  rw[List.length_map,List.length_map]
  omega
 ·walk_at "pv"
  refine⟨rfl,W,_,top2,tw [7,5,6],rfl,tpd,?_⟩
  have etw:tw [7,5,6]=[pn 5,pn 6,pn 7]:=by decide
  rw[etw]
  refine zaa false ⟨⟨3,by decide,zaP [pn 5,pn 6,pn 7],zaP [pn 5,pn 6,pn 7]⟩,?_⟩ ?_
  ·show PV.bl false=PV.bl (true^^peq (.lst ([pn 5,pn 6,pn 7].map Pr.pv)) (.lst ([pn 5,pn 6,pn 7].map Pr.pv)))
   rw[zeT]
   rfl
  walk_at "pv"
  refine⟨⟨by decide,by decide,by decide⟩,draw (by omega) (by decide) (by decide) fun q q0 q1=>?_⟩
  obtain⟨x,ex,bx⟩:=bad_at q0 q1
  walk_at "pv"
  refine zaa _ ex ?_
  walk_at "pv"
  exact zaa _ ⟨bx,rfl⟩ rfl
end
set_option maxHeartbeats 4000000
open PySem L2
theorem df_mk {K:PySem.W.Frag}{h:Heap}{mg:Str→Option Value}{n:Str}{st:Stmt}{f:Addr}{od an:Option Addr}{sl:Array (Option Value)}{oc kV dc pm cd ct:Value} (X:K.In h) (G:h.Ns mainGlobals mg) (a:PySem.W.nsIn K mainGlobals n=some (some (.ref f)))
  (l:K.lookup f=some ⟨oc,od,.func (PySem.W.fnOf n n (defArgs st) (defBody st) (defScope st) .none kV dc pm an cd ct),sl⟩) (c:PySem.W.codeIn K cd n=true) (k:PySem.W.keepIn K (.ref f)=true):Df K mg n st:=⟨_,_,fun_mk (st:=st) l c k,PySem.W.mg_of X G a⟩
theorem dm_mk {K:PySem.W.Frag}{C:Addr}{n q:Str}{st:Stmt}{f:Addr}{od an:Option Addr}{sl:Array (Option Value)}{oc kV dc pm cd ct:Value} (a:PySem.W.findIn K (.ref C) n=some (some (.ref f)))
  (l:K.lookup f=some ⟨oc,od,.func (PySem.W.fnOf n q (defArgs st) (defBody st) (defScope st) .none kV dc pm an cd ct),sl⟩) (c:PySem.W.codeIn K cd q=true) (k:PySem.W.keepIn K (.ref f)=true) (i:PySem.W.isFn K (.ref f)=true):DfM K C n q st:=⟨_,_,fun_mk (st:=st) l c k,a,i,k⟩
theorem own_mk {K:PySem.W.Frag}{h:Heap}{mg:Str→Option Value}{x:Str}{C N:Addr}{bmB:List Value}{newId:String}{nm q:Str}{bs bm:List Value}{hd:Bool}{sn:List Str}{sub:List Value}{ab:Bool}{col:Option Bool}{dd:Option Addr}{k0 k1 k2 k3 k5:Option Value}
  (kb:K.In h) (gb:h.Ns mainGlobals mg) (e:mg x=some (.ref C)) (l:K.lookup C=some (excClassObj nm q C N bs bm hd sn sub ab col dd k0 k1 k2 k3 k5 newId)) (n1:PySem.W.nsOkIn K N=true) (n2:PySem.W.nsIn K N "__init__"=some none) (t:PySem.W.tailIn K bmB bm=true):PyProof.Rows.OwnCls x C bmB newId mg h:=
 ⟨e,bm,N,nm,q,bs,hd,sn,sub,ab,col,dd,k0,k1,k2,k3,k5,_,kb _ _ l,.of_isNs (PySem.W.isNs_of_in kb n1),PySem.W.nsMap_none_of_in kb n1 n2,PySem.W.tail_of_in kb t⟩
theorem zdi {P:Program}{w:World}{K:PySem.W.Frag}{mg:Str→Option Value}{base:Heap}{k:Nat} (D:Df K mg "put_beneath" zaK):Kn P w K mg base (k+1) "put_beneath" (spV K true (Rl3 (rPut 0))):=by
 have no:∀ {vs:List V}{H:Hp}{Q:VK}{E:XK},(spV K true (Rl3 (rPut 0))) vs H Q E→False:=fun h=>by
  obtain⟨B,xs,r,_,_,⟨x0,x1,x2,e,h⟩,_⟩:=h
  obtain⟨_,_,_,_,hn,_⟩:=h
  exact Nat.not_lt_zero _ hn
 obtain⟨f,fd,F,m⟩:=D
 exact⟨f,fd,["shape","pair","most"],F.ok sc_put_beneath (fun vs H Q E h=>(no h).elim) (fun _ _ _ _ _ _ _ _ _ h=>(no h).elim),F.binds fun _ _ _ _ _ _ us hl=>match us,hl with | [_,_,_],_=>rfl,F.kp,m⟩
theorem zcp {P:Program}{w:World}{K:PySem.W.Frag}{mg:Str→Option Value}{base:Heap}{k:Nat} (D:Df K mg "taken_beneath" zaA):Kn P w K mg base (k+1) "taken_beneath" (spV K false (Rl3 (rTake 0))):=by
 have no:∀ {vs:List V}{H:Hp}{Q:VK}{E:XK},(spV K false (Rl3 (rTake 0))) vs H Q E→False:=fun h=>by
  obtain⟨B,xs,r,_,_,⟨x0,x1,x2,e,h⟩,_⟩:=h
  obtain⟨_,_,_,_,hn,_⟩:=h
  exact Nat.not_lt_zero _ hn
 obtain⟨f,fd,F,m⟩:=D
 exact⟨f,fd,["shape","pair","most"],F.ok sc_taken_beneath (fun vs H Q E h=>(no h).elim) (fun _ _ _ _ _ _ _ _ _ h=>(no h).elim),F.binds fun _ _ _ _ _ _ us hl=>match us,hl with | [_,_,_],_=>rfl,F.kp,m⟩
theorem zcq {P:Program}{w:World}{K:PySem.W.Frag}{mg:Str→Option Value}{base:Heap}{k:Nat} (D:Df K mg "pairs_beneath" zaB):Kn P w K mg base (k+1) "pairs_beneath" (spV K true (Rl1 (rPairs 0))):=by
 have no:∀ {vs:List V}{H:Hp}{Q:VK}{E:XK},(spV K true (Rl1 (rPairs 0))) vs H Q E→False:=fun h=>by
  obtain⟨B,xs,r,_,_,⟨x0,e,h⟩,_⟩:=h
  obtain⟨_,_,hn,_⟩:=h
  exact Nat.not_lt_zero _ hn
 obtain⟨f,fd,F,m⟩:=D
 exact⟨f,fd,["shape"],F.ok sc_pairs_beneath (fun vs H Q E h=>(no h).elim) (fun _ _ _ _ _ _ _ _ _ h=>(no h).elim),F.binds fun _ _ _ _ _ _ us hl=>match us,hl with | [_],_=>rfl,F.kp,m⟩
theorem zdj {P:Program}{w:World}{K:PySem.W.Frag}{mg:Str→Option Value}{base:Heap}{k:Nat} (D:Df K mg "_law_walked" zaL):Kn P w K mg base (k+1) "_law_walked" (spV K false (Rl3 (rW 0))):=by
 have no:∀ {vs:List V}{H:Hp}{Q:VK}{E:XK},(spV K false (Rl3 (rW 0))) vs H Q E→False:=fun h=>by
  obtain⟨B,xs,r,_,_,⟨x0,x1,x2,e,h⟩,_⟩:=h
  obtain⟨_,_,_,_,hn,_⟩:=h
  exact Nat.not_lt_zero _ hn
 obtain⟨f,fd,F,m⟩:=D
 exact⟨f,fd,["_law_shape","_law_most","_law_is_top"],F.ok sc__law_walked (fun vs H Q E h=>(no h).elim) (fun _ _ _ _ _ _ _ _ _ h=>(no h).elim),F.binds fun _ _ _ _ _ _ us hl=>match us,hl with | [_,_,_],_=>rfl,F.kp,m⟩
theorem all_mk {l:PySem.W.OpenLaw}{w:World}{K:PySem.W.Frag}{h:Heap}{mg:Str→Option Value}{fa C:Addr} (X:K.In h) (G:h.Ns mainGlobals mg) (hfa:mg "law"=some (.ref fa))
  {De Dp c1 c2 c3 c4 c5 c6 c7 c8 c9 c10 c11:Addr}{nmC qC:Str}{NC:Addr}{bsC bmC:List Value}{hdC:Bool}{snC:List Str}{subC:List Value}{abC:Bool}{colC:Option Bool}{ddC:Option Addr}{k0C k1C k2C k3C k5C:Option Value}
  {tkGREATEST_MOST:Tok}{tkLEAST_MOST:Tok}
  (cGREATEST_MOST:PySem.W.nsIn K mainGlobals "GREATEST_MOST"=some (some (.int 9 tkGREATEST_MOST)))
  (cLEAST_MOST:PySem.W.nsIn K mainGlobals "LEAST_MOST"=some (some (.int 3 tkLEAST_MOST)))
  (D__law_digit:Df K mg "_law_digit" sDigit)
  (D__law_mixed:Df K mg "_law_mixed" sMixed)
  (D__law_take:Df K mg "_law_take" sTake)
  (D__law_begin:Df K mg "_law_begin" sBegin)
  (D__law_is_no_tree:Df K mg "_law_is_no_tree" zaE)
  (D_rank:Df K mg "rank" d_rank)
  (D_row_rank:Df K mg "row_rank" zcc)
  (D_pair_rank:Df K mg "pair_rank" zbF)
  (D_place_behind:Df K mg "place_behind" zaR)
  (D_things_of:Df K mg "things_of" zbD)
  (D_room_of:Df K mg "room_of" zcN)
  (D_first_pair:Df K mg "first_pair" zbj)
  (D_shape_of:Df K mg "shape_of" zcb)
  (D_shapes_of:Df K mg "shapes_of" zbE)
  (D_put_beneath:Df K mg "put_beneath" zaK)
  (D_is_too_small:Df K mg "is_too_small" zaS)
  (D_mended:Df K mg "mended" zdW)
  (D_taken_beneath:Df K mg "taken_beneath" zaA)
  (D_pairs_beneath:Df K mg "pairs_beneath" zaB)
  (D_is_whole:Df K mg "is_whole" zbu)
  (D__law_not_made:Df K mg "_law_not_made" zaQ)
  (D__law_order:Df K mg "_law_order" zbl)
  (D__law_pair_order:Df K mg "_law_pair_order" zaD)
  (D__law_walked:Df K mg "_law_walked" zaL)
  (D__law_whole:Df K mg "_law_whole" zbk)
  (D__law_stands:Df K mg "_law_stands" zba)
  (D__law_pair:Df K mg "_law_pair" zbG)
  (D__law_refused:Df K mg "_law_refused" zaT)
  (D__law_deed:Df K mg "_law_deed" zbH)
  (D_law:Df K mg "law" d_law)
  (y0:PySem.W.nsIn K mainGlobals "Tree"=some (some (.ref C))) (y1:PySem.W.plainGet K C Str.empty=true) (y2:PySem.W.hasDictIn K C=true) (y3:PySem.W.plainOver K C=true) (y4:PySem.W.findIn K (.ref C) "__setattr__"=some (some (.builtin "object.__setattr__"))) (y5:PySem.W.makesIn K C=true) (y6:PySem.W.keepIn K (.ref C)=true)
  (NA_most:NoAttr K C "most")
  (NA_top:NoAttr K C "top")
  (NA_total:NoAttr K C "total")
  (DM_has:DfM K C "has" "Tree.has" m_has)
  (DM_put:DfM K C "put" "Tree.put" m_put)
  (DM_take:DfM K C "take" "Tree.take" zfG)
  (DM_pairs:DfM K C "pairs" "Tree.pairs" zeZ)
  (DM_init:DfM K C "__init__" "Tree.__init__" zfH)
  (DM_many:DfM K C "many" "Tree.many" m_many)
  (DM_shape:DfM K C "shape" "Tree.shape" zeY)
  (x0:PySem.W.nsIn K mainGlobals "NoTree"=some (some (.ref De))) (xl:K.lookup De=some (excClassObj nmC qC De NC bsC bmC hdC snC subC abC colC ddC k0C k1C k2C k3C k5C "ValueError.__new__")) (xn:PySem.W.nsOkIn K NC=true) (xi:PySem.W.nsIn K NC "__init__"=some none) (xt:PySem.W.tailIn K bmV bmC=true)
  (xp:PySem.W.nsIn K mainGlobals "PlanError"=some (some (.ref Dp))) (e1:(PySem.W.clsIn K De).isSome=true) (e2:PySem.W.findIn K (.ref De) "__getattribute__"=some (some (.builtin "BaseException.__getattribute__"))) (e3:PySem.W.findIn K (.ref De) "__getattr__"=some none)
  (e4:PySem.W.findIn K (.ref De) "__class__"=some (some (.builtin "object.__class__"))) (e5:PySem.W.specialIn K (.builtin "object.__class__") "__get__"=some (some (.builtin "getset_descriptor.__get__"))) (e6:PySem.W.takesIn K (.builtin "object.__class__")=some true)
  (e7:PySem.W.mroIn K De (.type "object")=some true) (e8:PySem.W.mroIn K De (.type "BaseException")=some true) (m1:(PySem.W.clsIn K Dp).isSome=true) (m2:PySem.W.typeIn K (.ref Dp)=some (.type "type")) (m3:PySem.W.mroIn K Dp (.type "BaseException")=some true) (m4:PySem.W.mroIn K De (.ref Dp)=some true)
  (w1:PySem.W.nsIn K mainGlobals "Late"=some (some (.ref c1))) (w2:PySem.W.nsIn K mainGlobals "NoAsk"=some (some (.ref c2))) (w3:PySem.W.nsIn K mainGlobals "NoFrame"=some (some (.ref c3))) (w4:PySem.W.nsIn K mainGlobals "NoKeep"=some (some (.ref c4))) (w5:PySem.W.nsIn K mainGlobals "NoMore"=some (some (.ref c5))) (w6:PySem.W.nsIn K mainGlobals "NoName"=some (some (.ref c6))) (w7:PySem.W.nsIn K mainGlobals "NoOrder"=some (some (.ref c7))) (w8:PySem.W.nsIn K mainGlobals "NoPlan"=some (some (.ref c8))) (w9:PySem.W.nsIn K mainGlobals "NoRow"=some (some (.ref c9))) (w10:PySem.W.nsIn K mainGlobals "NoText"=some (some (.ref c10))) (w11:PySem.W.nsIn K mainGlobals "NoTurn"=some (some (.ref c11)))
  (kv:PySem.W.kitOne K (.ref De) (.type "ValueError")=some true) (ka:PySem.W.kitAny K (.ref De) [.ref c1,.ref c2,.ref c3,.ref c4,.ref c5,.ref c6,.ref c7,.ref c8,.ref c9,.ref c10,.ref c11]=some false)
  (z1:PySem.W.nsIn K mainGlobals "ValueError"=some none) (z2:PySem.W.nsIn K mainGlobals "abs"=some none) (z3:PySem.W.nsIn K mainGlobals "bool"=some none) (z4:PySem.W.nsIn K mainGlobals "int"=some none) (z5:PySem.W.nsIn K mainGlobals "isinstance"=some none) (z6:PySem.W.nsIn K mainGlobals "len"=some none) (z7:PySem.W.nsIn K mainGlobals "list"=some none) (z8:PySem.W.nsIn K mainGlobals "max"=some none) (z9:PySem.W.nsIn K mainGlobals "range"=some none) (z10:PySem.W.nsIn K mainGlobals "sorted"=some none) (z11:PySem.W.nsIn K mainGlobals "str"=some none) (z12:PySem.W.nsIn K mainGlobals "tuple"=some none) :
  ∃ fd:FuncData,(∀ (s:Shared) (v:Value),BindsTo s fd ⟨[v],[]⟩ [("_law_script",v)])∧∀ base:Heap,K.In base→base.Ns mainGlobals mg→FnOk l.prog w K mg base CX0 15 fa fd ["_law_script"] (spLaw K):=by
 have B:Bt mg:=⟨PySem.W.mg_none_of X G z1,PySem.W.mg_none_of X G z2,PySem.W.mg_none_of X G z3,PySem.W.mg_none_of X G z4,PySem.W.mg_none_of X G z5,PySem.W.mg_none_of X G z6,PySem.W.mg_none_of X G z7,PySem.W.mg_none_of X G z8,PySem.W.mg_none_of X G z9,PySem.W.mg_none_of X G z10,PySem.W.mg_none_of X G z11,PySem.W.mg_none_of X G z12⟩
 have Cl:Cls K C:=⟨y1,y2,y3,y4⟩
 obtain⟨fl,fld,Fl,ml⟩:=D_law
 have e:=hfa.symm.trans ml
 cases e
 refine⟨fld,?_,fun base Kb Gb=>?_⟩
 ·obtain⟨_,_,_,_,_,_,_,_,_,rfl,_⟩:=Fl.ex
  exact fun s u=>.of_eq rfl
 have C_GREATEST_MOST:Gc K mg "GREATEST_MOST" (.int 9):=.int (PySem.W.mg_of X G cGREATEST_MOST)
 have C_LEAST_MOST:Gc K mg "LEAST_MOST" (.int 3):=.int (PySem.W.mg_of X G cLEAST_MOST)
 obtain⟨f__law_digit,fd__law_digit,F__law_digit,m__law_digit⟩:=D__law_digit
 have b__law_digit:=F__law_digit.binds (ps:=["_law_state","_law_most"]) fun _ _ _ _ _ _ us hl=>match us,hl with | [_,_],_=>rfl
 obtain⟨f__law_mixed,fd__law_mixed,F__law_mixed,m__law_mixed⟩:=D__law_mixed
 have b__law_mixed:=F__law_mixed.binds (ps:=["_law_state","_law_most"]) fun _ _ _ _ _ _ us hl=>match us,hl with | [_,_],_=>rfl
 obtain⟨f__law_take,fd__law_take,F__law_take,m__law_take⟩:=D__law_take
 have b__law_take:=F__law_take.binds (ps:=["_law_state","_law_most"]) fun _ _ _ _ _ _ us hl=>match us,hl with | [_,_],_=>rfl
 obtain⟨f__law_begin,fd__law_begin,F__law_begin,m__law_begin⟩:=D__law_begin
 have b__law_begin:=F__law_begin.binds (ps:=["_law_script"]) fun _ _ _ _ _ _ us hl=>match us,hl with | [_],_=>rfl
 have GT:FnOk l.prog w K mg base CX0 2 f__law_take _ ["_law_state","_law_most"] (spTake K):=ok_take F__law_take (ok_digit F__law_digit B) b__law_digit F__law_digit.kp m__law_digit (ok_mixed F__law_mixed B) b__law_mixed F__law_mixed.kp m__law_mixed
 have N__law_begin:Kn l.prog w K mg base 3 "_law_begin" (spBegin K):=⟨_,_,_,ok_begin F__law_begin B,b__law_begin,F__law_begin.kp,m__law_begin⟩
 have N__law_take:Kn l.prog w K mg base 2 "_law_take" (spS K false (Tr2 zcr)):=⟨_,_,_,GT.imp (fun vs H Q E h=>by obtain⟨B,xs,st,P,q1,q2,q3,q4,q5,q6,q7⟩:=h;exact take_of ⟨B,xs,st,P,q1,q2,q3,q4,q5,take2 q6,q7⟩),b__law_take,F__law_take.kp,m__law_take⟩
 have O:PyProof.Rows.OwnCls "NoTree" De bmV "ValueError.__new__" mg base:=own_mk (kb:=Kb) (gb:=Gb) (PySem.W.mg_of X G x0) xl xn xi xt
 have ZK:Kl K mg De Dp [c1,c2,c3,c4,c5,c6,c7,c8,c9,c10,c11]:=⟨PySem.W.mg_of X G xp,PySem.W.mg_of X G x0,⟨m1,m2,m3,m4⟩,⟨e1,e2,e3,e4,e5,e6,e7,e8⟩,kv,ka⟩
 have N__law_is_no_tree:Kn l.prog w K mg base 1 "_law_is_no_tree" (spNT K De):=zbV (k:=0) D__law_is_no_tree B ZK (PySem.W.mg_of X G w1) (PySem.W.mg_of X G w2) (PySem.W.mg_of X G w3) (PySem.W.mg_of X G w4) (PySem.W.mg_of X G w5) (PySem.W.mg_of X G w6) (PySem.W.mg_of X G w7) (PySem.W.mg_of X G w8) (PySem.W.mg_of X G w9) (PySem.W.mg_of X G w10) (PySem.W.mg_of X G w11)
 have N_rank:Kn l.prog w K mg base 1 "rank" (spV K false (Rl1 rRank)):=k_rank (k:=0) D_rank B
 have N_row_rank:Kn l.prog w K mg base 2 "row_rank" (spV K false (Rl1 rRowRank)):=k_row_rank (k:=1) D_row_rank B (F_rank:=N_rank.mono (by decide))
 have N_pair_rank:Kn l.prog w K mg base 3 "pair_rank" (spV K false (Rl1 rPairRank)):=zfe (k:=2) D_pair_rank B (F_row_rank:=N_row_rank.mono (by decide))
 have N_place_behind:Kn l.prog w K mg base 4 "place_behind" (spV K false (Rl2 rPlace)):=zcS (k:=3) D_place_behind B (F_pair_rank:=N_pair_rank.mono (by decide))
 have NM_has:KnM l.prog w K mg base 5 C "has" (spM K C false (Mr1 rHas)):=km_has (k:=4) DM_has B (Cl:=Cl) (NA_top:=NA_top) (F_place_behind:=N_place_behind.mono (by decide))
 have N_things_of:Kn l.prog w K mg base 1 "things_of" (spV K true (Rl1 rThings)):=zfc (k:=0) D_things_of B
 have N_room_of:Kn l.prog w K mg base 1 "room_of" (spV K false (Rl2 rRoom)):=k_room_of (k:=0) D_room_of B
 have N_first_pair:Kn l.prog w K mg base 1 "first_pair" (spV K false (Rl1 rFirst)):=zev (k:=0) D_first_pair B
 have N_shape_of:Kn l.prog w K mg base 2 "shape_of" (spV K false (Rl2 rShape)):=k_shape_of (k:=1) D_shape_of B (F_first_pair:=N_first_pair.mono (by decide))
 have N_shapes_of:Kn l.prog w K mg base 3 "shapes_of" (spV K true (Rl3 rShapes)):=zfd (k:=2) D_shapes_of B (F_room_of:=N_room_of.mono (by decide)) (F_shape_of:=N_shape_of.mono (by decide))
 have R_put_beneath:∀ m,Kn l.prog w K mg base (5+m) "put_beneath" (spV K true (Rl3 (rPut m))):=fun m=>by
  induction m with
  | zero=>exact zdi (k:=4) D_put_beneath
  | succ m ih=>exact zdH (m:=m) (k:=5+m) D_put_beneath B (F_things_of:=N_things_of.mono (by omega)) (F_place_behind:=N_place_behind.mono (by omega)) (F_shapes_of:=N_shapes_of.mono (by omega)) (F_put_beneath:=ih)
 have N_put_beneath:=R_put_beneath 7
 have NM_put:KnM l.prog w K mg base 13 C "put" (spM K C false (Mr2 rMPut)):=km_put (k:=12) DM_put B (Cl:=Cl) (NA_top:=NA_top) (NA_total:=NA_total) (NA_most:=NA_most) (M_has:=NM_has.mono (by decide)) (F_put_beneath:=N_put_beneath.mono (by decide)) (F_shape_of:=N_shape_of.mono (by decide))
 have N_is_too_small:Kn l.prog w K mg base 1 "is_too_small" (spV K false (Rl2 rSmall)):=zcT (k:=0) D_is_too_small B
 have N_mended:Kn l.prog w K mg base 4 "mended" (spV K false (Rl3 rMended)):=k_mended (k:=3) D_mended B (F_is_too_small:=N_is_too_small.mono (by decide)) (F_shapes_of:=N_shapes_of.mono (by decide)) (F_things_of:=N_things_of.mono (by decide))
 have R_taken_beneath:∀ m,Kn l.prog w K mg base (5+m) "taken_beneath" (spV K false (Rl3 (rTake m))):=fun m=>by
  induction m with
  | zero=>exact zcp (k:=4) D_taken_beneath
  | succ m ih=>exact zcG (m:=m) (k:=5+m) D_taken_beneath B (F_things_of:=N_things_of.mono (by omega)) (F_place_behind:=N_place_behind.mono (by omega)) (F_taken_beneath:=ih) (F_shape_of:=N_shape_of.mono (by omega)) (F_mended:=N_mended.mono (by omega))
 have N_taken_beneath:=R_taken_beneath 7
 have NM_take:KnM l.prog w K mg base 13 C "take" (spM K C false (Mr2 rMTake)):=km_take (k:=12) DM_take B (Cl:=Cl) (NA_top:=NA_top) (NA_total:=NA_total) (NA_most:=NA_most) (M_has:=NM_has.mono (by decide)) (F_taken_beneath:=N_taken_beneath.mono (by decide))
 have R_pairs_beneath:∀ m,Kn l.prog w K mg base (2+m) "pairs_beneath" (spV K true (Rl1 (rPairs m))):=fun m=>by
  induction m with
  | zero=>exact zcq (k:=1) D_pairs_beneath
  | succ m ih=>exact zcH (m:=m) (k:=2+m) D_pairs_beneath B (F_things_of:=N_things_of.mono (by omega)) (F_pairs_beneath:=ih)
 have N_pairs_beneath:=R_pairs_beneath 7
 have NM_pairs:KnM l.prog w K mg base 10 C "pairs" (spM K C true (Mr0 rMPairs)):=km_pairs (k:=9) DM_pairs B (Cl:=Cl) (NA_top:=NA_top) (F_pairs_beneath:=N_pairs_beneath.mono (by decide))
 have N_is_whole:Kn l.prog w K mg base 1 "is_whole" (spV K false (Rl1 rWhole)):=k_is_whole (k:=0) D_is_whole B
 have NM_init:KnM l.prog w K mg base 2 C "__init__" (spM K C false (Mr1 rInit)):=km_init (k:=1) DM_init B (Cl:=Cl) (NA_most:=NA_most) (NA_top:=NA_top) (NA_total:=NA_total) (C_LEAST_MOST:=C_LEAST_MOST) (C_GREATEST_MOST:=C_GREATEST_MOST) (F_is_whole:=N_is_whole.mono (by decide))
 have NX_init:=kx_init (P:=l.prog) (w:=w) (base:=base) (k:=1) DM_init B C_LEAST_MOST C_GREATEST_MOST (zfb (k:=0) D_is_whole B) O
 have NIX:KnIX l.prog w K mg base 2 "Tree" C (spMX K C gInitX De):=by
  obtain⟨f,fd,ps,F,b,M⟩:=NX_init.ex
  exact⟨f,fd,ps,F,b,⟨y5,M.at_,M.fn,y6⟩,PySem.W.mg_of X G y0⟩
 have N__law_not_made:Kn l.prog w K mg base 4 "_law_not_made" (spV K false (Rl1 rNot)):=zcI (k:=2) D__law_not_made B NIX (N__law_is_no_tree.mono (by decide)) ZK.pe ZK.m
 have NM_many:KnM l.prog w K mg base 1 C "many" (spM K C false (Mr0 rMMany)):=km_many (k:=0) DM_many B (Cl:=Cl) (NA_total:=NA_total)
 have NM_shape:KnM l.prog w K mg base 1 C "shape" (spM K C false (Mr0 rMShape)):=km_shape (k:=0) DM_shape B (Cl:=Cl) (NA_top:=NA_top)
 have N__law_order:Kn l.prog w K mg base 1 "_law_order" (spV K false (Rl1 rRank)):=zex (k:=0) D__law_order B
 have N__law_pair_order:Kn l.prog w K mg base 2 "_law_pair_order" (spV K false (Rl1 rPairRank)):=zbU (k:=1) D__law_pair_order B (F__law_order:=N__law_order.mono (by decide))
 have R__law_walked:∀ m,Kn l.prog w K mg base (1+m) "_law_walked" (spV K false (Rl3 (rW m))):=fun m=>by
  induction m with
  | zero=>exact zdj (k:=0) D__law_walked
  | succ m ih=>exact zdI (m:=m) (k:=1+m) D__law_walked B (F__law_walked:=ih)
 have N__law_walked:=R__law_walked 7
 have N__law_whole:Kn l.prog w K mg base 1 "_law_whole" (spV K false (Rl1 rWhole)):=zew (k:=0) D__law_whole B
 have N__law_stands:Kn l.prog w K mg base 11 "_law_stands" (spG K (tStands C)):=zdJ (k0:=8) D__law_stands B (Cl:=Cl) (M_many:=NM_many.mono (by decide)) (M_shape:=NM_shape.mono (by decide)) (M_pairs:=NM_pairs.mono (by decide)) (G__law_pair_order:=N__law_pair_order.mono (by decide)) (F__law_walked:=N__law_walked.mono (by decide)) (F__law_whole:=N__law_whole.mono (by decide))
 have N__law_pair:Kn l.prog w K mg base 3 "_law_pair" (spS K false (Tr1 tPair)):=zff (k:=2) D__law_pair B (F__law_take:=N__law_take.mono (by decide))
 have NX_put:=kx_put (P:=l.prog) (w:=w) (base:=base) (k:=5) DM_put B Cl (NM_has.mono (by decide)) O
 have NX_take:=kx_take (P:=l.prog) (w:=w) (base:=base) (k:=5) DM_take B Cl (NM_has.mono (by decide)) O
 have N__law_refused:Kn l.prog w K mg base 7 "_law_refused" (spG K (tRef C)):=zcU (k:=6) D__law_refused B Cl NX_put NX_take (N__law_is_no_tree.mono (by decide)) ZK.pe ZK.m
 have N__law_deed:Kn l.prog w K mg base 14 "_law_deed" (spG K (tDeed C)):=zfg (k:=13) D__law_deed B (Cl:=Cl) (M_take:=NM_take.mono (by decide)) (M_put:=NM_put.mono (by decide)) (F__law_pair:=N__law_pair.mono (by decide)) (F__law_refused:=N__law_refused.mono (by decide)) (F__law_take:=N__law_take.mono (by decide))
 have NI:KnI l.prog w K mg base 13 "Tree" C (spM K C false (Mr1 rInit)):=by
  obtain⟨f,fd,ps,F,b,M⟩:=(NM_init.mono (k:=13) (by decide)).ex
  exact⟨f,fd,ps,F,b,⟨y5,M.at_,M.fn,y6⟩,PySem.W.mg_of X G y0⟩
 exact k_law (k0:=12) Fl B (N__law_begin.mono (by decide)) (Cl:=Cl) (M_put:=NM_put.mono (by decide)) (M_take:=NM_take.mono (by decide)) (M_pairs:=NM_pairs.mono (by decide)) (I_Tree:=NI) (F__law_not_made:=N__law_not_made.mono (by decide)) (F__law_take:=N__law_take.mono (by decide)) (F__law_stands:=N__law_stands.mono (by decide)) (F__law_deed:=N__law_deed.mono (by decide))
theorem walk {l:PySem.W.OpenLaw}{q:Program}{loose:List Str}{XP:(Str→Option Value)→Heap→Prop}{YP:World→Heap→Prop}{d:DefRec}{K:Params→PySem.W.Frag} (hn:l.most=some 63) (hdf:d.params.defaults=[])
  (hY:∀ (w:World) (h:Heap),YP w h→(K w.params).In h)
  (F:∀ (w:World) (mg:Str→Option Value) (fa:Addr) (h:Heap),(K w.params).In h→h.Ns mainGlobals mg→mg d.name=some (.ref fa) →
   ∃ fd:FuncData,(∀ (s:Shared) (u:Value),BindsTo s fd ⟨[u],[]⟩ [("_law_script",u)])∧∀ base:Heap,(K w.params).In base→base.Ns mainGlobals mg→FnOk l.prog w (K w.params) mg base CX0 15 fa fd ["_law_script"] (spLaw (K w.params))) :
  PySem.W.WalkO q loose XP YP l.row.toRowW d [] (fun f vs=>PySem.call f vs):=
 L2.walk_of (n:=63) (k:=15) (x:="_law_script") (CX:=fun _=>CX0) (sp:=fun w=>spLaw (K w.params)) hn (by decide) hdf ⟨rfl,by decide,by decide⟩ hY F (fun _ _ a ns hl hO hS=>⟨a,ns,rfl,hO,hS,hl,fun _=>rfl⟩) fun _ _ _ _ _ z=>z
end K61
open PySem PySem.W PyProof.Rows
set_option maxRecDepth 100000 in
set_option maxHeartbeats 0 in
theorem PySem.Challenge.cw_everyplan_k61_trees_by_deeds_holds : PySem.Challenge.rw_everyplan_k61_trees_by_deeds.Holds := by
 refine holds_law K61.ow0 fun said=>?_
 refine holds_open (r:=PySem.Challenge.rw_everyplan_k61_trees_by_deeds.row) (q:=K61.owQ) (loose:=[]) (Xt:=fun s=>xlAt K61.owQ [] s&&recOk [] s) (XP:=XL K61.owQ []) (Yf:=Hook.obs (kHook K61.owF K61.owA K61.owE)) (Ya:=Hook.val (kHook K61.owF K61.owA K61.owE)) (YP:=Hook.says (kHook K61.owF K61.owA K61.owE)) (N:=4400)
  (d:={ name:="law",params:=L2.defArgs K61.d_law,body:=L2.defBody K61.d_law,scope:=L2.defScope K61.d_law,pos:=K61.d_law.pos }) (kwd:=[])
  K61.left_own (Hook.of _) (Hook.keeps _) (fun s e=>xl_of s (Bool.and_eq_true_iff.mp e).1) XL.keeps (by kernel_rfl) (by kernel_rfl) (by kernel_rfl)
  (fun s e=>recFacts_of (Bool.and_eq_true_iff.mp e).2) (by rfl) said (by kernel_rfl) ⟨rfl,rfl,rfl,rfl,rfl,by decide +kernel⟩ ?hw ?hc
 case hw=>w_witness2
 k_fill
 refine K61.walk (l:=PySem.Challenge.rw_everyplan_k61_trees_by_deeds) rfl rfl (fun w h Y=>PySem.W.kIn_of Y) ?F
 case F=>
  intro w mg fa h KX G hmg
  refine' K61.all_mk KX G hmg ?cGREATEST_MOST ?cLEAST_MOST ?D__law_digit ?D__law_mixed ?D__law_take ?D__law_begin ?D__law_is_no_tree ?D_rank ?D_row_rank ?D_pair_rank ?D_place_behind ?D_things_of ?D_room_of ?D_first_pair ?D_shape_of ?D_shapes_of ?D_put_beneath ?D_is_too_small ?D_mended ?D_taken_beneath ?D_pairs_beneath ?D_is_whole ?D__law_not_made ?D__law_order ?D__law_pair_order ?D__law_walked ?D__law_whole ?D__law_stands ?D__law_pair ?D__law_refused ?D__law_deed ?D_law ?y0 ?y1 ?y2 ?y3 ?y4 ?y5 ?y6 ?NA_most ?NA_top ?NA_total ?DM_has ?DM_put ?DM_take ?DM_pairs ?DM_init ?DM_many ?DM_shape ?x0 ?xl ?xn ?xi ?xt ?xp ?e1 ?e2 ?e3 ?e4 ?e5 ?e6 ?e7 ?e8 ?m1 ?m2 ?m3 ?m4 ?w1 ?w2 ?w3 ?w4 ?w5 ?w6 ?w7 ?w8 ?w9 ?w10 ?w11 ?kv ?ka ?z1 ?z2 ?z3 ?z4 ?z5 ?z6 ?z7 ?z8 ?z9 ?z10 ?z11 ?z12
  (case cGREATEST_MOST=>k_is)
  (case cLEAST_MOST=>k_is)
  (case D__law_digit=>apply K61.df_mk KX G;iterate 4 k_is)
  (case D__law_mixed=>apply K61.df_mk KX G;iterate 4 k_is)
  (case D__law_take=>apply K61.df_mk KX G;iterate 4 k_is)
  (case D__law_begin=>apply K61.df_mk KX G;iterate 4 k_is)
  (case D__law_is_no_tree=>apply K61.df_mk KX G;iterate 4 k_is)
  (case D_rank=>apply K61.df_mk KX G;iterate 4 k_is)
  (case D_row_rank=>apply K61.df_mk KX G;iterate 4 k_is)
  (case D_pair_rank=>apply K61.df_mk KX G;iterate 4 k_is)
  (case D_place_behind=>apply K61.df_mk KX G;iterate 4 k_is)
  (case D_things_of=>apply K61.df_mk KX G;iterate 4 k_is)
  (case D_room_of=>apply K61.df_mk KX G;iterate 4 k_is)
  (case D_first_pair=>apply K61.df_mk KX G;iterate 4 k_is)
  (case D_shape_of=>apply K61.df_mk KX G;iterate 4 k_is)
  (case D_shapes_of=>apply K61.df_mk KX G;iterate 4 k_is)
  (case D_put_beneath=>apply K61.df_mk KX G;iterate 4 k_is)
  (case D_is_too_small=>apply K61.df_mk KX G;iterate 4 k_is)
  (case D_mended=>apply K61.df_mk KX G;iterate 4 k_is)
  (case D_taken_beneath=>apply K61.df_mk KX G;iterate 4 k_is)
  (case D_pairs_beneath=>apply K61.df_mk KX G;iterate 4 k_is)
  (case D_is_whole=>apply K61.df_mk KX G;iterate 4 k_is)
  (case D__law_not_made=>apply K61.df_mk KX G;iterate 4 k_is)
  (case D__law_order=>apply K61.df_mk KX G;iterate 4 k_is)
  (case D__law_pair_order=>apply K61.df_mk KX G;iterate 4 k_is)
  (case D__law_walked=>apply K61.df_mk KX G;iterate 4 k_is)
  (case D__law_whole=>apply K61.df_mk KX G;iterate 4 k_is)
  (case D__law_stands=>apply K61.df_mk KX G;iterate 4 k_is)
  (case D__law_pair=>apply K61.df_mk KX G;iterate 4 k_is)
  (case D__law_refused=>apply K61.df_mk KX G;iterate 4 k_is)
  (case D__law_deed=>apply K61.df_mk KX G;iterate 4 k_is)
  (case D_law=>apply K61.df_mk KX G;iterate 4 k_is)
  (case y0=>k_is)
  (case y1=>kernel_rfl)
  (case y2=>kernel_rfl)
  (case y3=>kernel_rfl)
  (case y4=>k_is)
  (case y5=>kernel_rfl)
  (case y6=>k_is)
  (case NA_most=>show PySem.W.findIn _ _ _=_;k_is)
  (case NA_top=>show PySem.W.findIn _ _ _=_;k_is)
  (case NA_total=>show PySem.W.findIn _ _ _=_;k_is)
  (case DM_has=>apply K61.dm_mk;iterate 5 k_is)
  (case DM_put=>apply K61.dm_mk;iterate 5 k_is)
  (case DM_take=>apply K61.dm_mk;iterate 5 k_is)
  (case DM_pairs=>apply K61.dm_mk;iterate 5 k_is)
  (case DM_init=>apply K61.dm_mk;iterate 5 k_is)
  (case DM_many=>apply K61.dm_mk;iterate 5 k_is)
  (case DM_shape=>apply K61.dm_mk;iterate 5 k_is)
  (case x0=>k_is)
  (case xl=>k_is)
  (case xn=>kernel_rfl)
  (case xi=>k_is)
  (case xt=>kernel_rfl)
  (case xp=>k_is)
  (case e1=>kernel_rfl)
  (case e2=>k_is)
  (case e3=>k_is)
  (case e4=>k_is)
  (case e5=>k_is)
  (case e6=>k_is)
  (case e7=>k_is)
  (case e8=>k_is)
  (case m1=>kernel_rfl)
  (case m2=>k_is)
  (case m3=>k_is)
  (case m4=>k_is)
  (case w1=>k_is)
  (case w2=>k_is)
  (case w3=>k_is)
  (case w4=>k_is)
  (case w5=>k_is)
  (case w6=>k_is)
  (case w7=>k_is)
  (case w8=>k_is)
  (case w9=>k_is)
  (case w10=>k_is)
  (case w11=>k_is)
  (case kv=>kernel_rfl)
  (case ka=>kernel_rfl)
  (case z1=>k_is)
  (case z2=>k_is)
  (case z3=>k_is)
  (case z4=>k_is)
  (case z5=>k_is)
  (case z6=>k_is)
  (case z7=>k_is)
  (case z8=>k_is)
  (case z9=>k_is)
  (case z10=>k_is)
  (case z11=>k_is)
  (case z12=>k_is)
