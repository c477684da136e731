import PyProof.Rows.All
import Wide.All
import OpenK.AllK
import Wide.FinOn
import Lean
import PyProof.EqAt
import PyProof.EqKinds
import PyProof.TupleCall
import PyProof.ZipIter
import PyProof.Draws
import PySem.Challenge.RW_everyplan_k07_conjuncts_joined_alike
import PyProof.SetKind
import PyProof.WalksS
import PyProof.CollectWalk
import PyProof.DictKinds
import KE.KEqDict
import PyProof.Rows.TupAdd
import PyProof.NeKinds
import PyProof.MeetsSeq
import KE.KDictList
import PySem.SetOps
import PyProof.SetScanFacts
import PyProof.FactsAll.set_1
import PyProof.FactsAll.subtypes_5
import Wide.Seal
import PyProof.Rows.EnumRows
open PySem.W(Frag)
set_option Elab.async false
set_option linter.all false
set_option compiler.extract_closed false
set_option maxRecDepth 100000
namespace L2
open PySem PySem.Spec PyProof.Rows
abbrev Key:=Sum Int Str
def keyIs:Key->Value->Bool
 |.inl k,v=>Value.isInt k v
 |.inr x,v=>Value.isStrOf x v
def keyH (w:World):Key->Int
 |.inl k=>hashInt k
 |.inr x=>hashStr w x
theorem zap:∀{k:Key}{v:Value},keyIs k v=true->(∃ i t,k=Sum.inl i/\v=Value.int i t)\/(∃ x t,k=Sum.inr x/\v=Value.str x t)
 |.inl i,v,h=>by
  obtain⟨t,e⟩:=Value.isInt_shape (k:=i) (v:=v) h;exact .inl ⟨i,t,rfl,e⟩
 |.inr x,v,h=>by
  obtain⟨t,e⟩:=Value.isStrOf_shape (x:=x) (v:=v) h;exact .inr ⟨x,t,rfl,e⟩
theorem zhB (i:Int)(t:Tok):keyIs (.inl i) (.int i t)=true:=by simp [keyIs,Value.isInt]
theorem zhA (x:Str)(t:Tok):keyIs (.inr x) (.str x t)=true:=by simp [keyIs,Value.isStrOf]
theorem znV (a b:Int):decide ((Sum.inl a:Key)=Sum.inl b)=(a==b):=by
 by_cases e:a=b
 ·subst e;simp
 ·have h:¬ (Sum.inl a:Key)=Sum.inl b:=fun q=>e (Sum.inl.inj q);rw[decide_eq_false h];exact(beq_eq_false_iff_ne.mpr e).symm
theorem znR (a b:Str):decide ((Sum.inr a:Key)=Sum.inr b)=decide (a=b):=by
 by_cases e:a=b
 ·subst e;simp
 ·have h:¬ (Sum.inr a:Key)=Sum.inr b:=fun q=>e (Sum.inr.inj q);rw[decide_eq_false h,decide_eq_false e]
theorem znU (a:Int)(b:Str):decide ((Sum.inl a:Key)=Sum.inr b)=false:=decide_eq_false (fun q=>nomatch q)
theorem znS (a:Str)(b:Int):decide ((Sum.inr a:Key)=Sum.inl b)=false:=decide_eq_false (fun q=>nomatch q)
def mixKind (prog:Program)(w:World):PySem.KeyKind prog w Key where
 is:=keyIs
 hash:=keyH w
 inj:=fun v a b ha hb=>by
  rcases zap ha with ⟨i,t,rfl,rfl⟩|⟨x,t,rfl,rfl⟩
  ·rcases zap hb with ⟨j,u,rfl,e⟩|⟨y,u,rfl,e⟩
   ·injection e with e1 _;rw[e1]
   ·exact nomatch e
  ·rcases zap hb with ⟨j,u,rfl,e⟩|⟨y,u,rfl,e⟩
   ·exact nomatch e
   ·injection e with e1 _;rw[e1]
 byValue:=fun k v h=>by
  rcases zap h with ⟨i,t,rfl,rfl⟩|⟨x,t,rfl,rfl⟩<;>rfl
 pyHash:=fun hv h=>by
  rcases zap hv with ⟨i,t,rfl,rfl⟩|⟨x,t,rfl,rfl⟩
  ·exact wpAny_pyHash_int h
  ·exact wpAny_pyHash_str h
 eqBool:=fun hu hv h=>by
  rcases zap hu with ⟨i,t,rfl,rfl⟩|⟨x,t,rfl,rfl⟩
  ·rcases zap hv with ⟨j,u,rfl,rfl⟩|⟨y,u,rfl,rfl⟩
   ·rw[znV] at h;exact wpAny_eqBool_int h
   ·rw[znU] at h;exact SeqAt.EqAt.int_str i t y u _ _ _ _ h
  ·rcases zap hv with ⟨j,u,rfl,rfl⟩|⟨y,u,rfl,rfl⟩
   ·rw[znS] at h;exact SeqAt.EqAt.str_int x t j u _ _ _ _ h
   ·rw[znR] at h;exact wpAny_eqBool_str h
 «strs»:=fun k x t v h=>by
  rcases zap h with ⟨i,u,rfl,e⟩|⟨y,u,rfl,e⟩
  ·exact nomatch e
  ·injection e with e1 _
   subst e1;cases v<;>rfl
theorem zeX (prog:Program)(w:World)(i:Int)(t:Tok):(mixKind prog w).is (.inl i) (.int i t)=true:=zhB i t
theorem zeW (prog:Program)(w:World)(x:Str)(t:Tok):(mixKind prog w).is (.inr x) (.str x t)=true:=zhA x t
end L2
namespace L2
open PySem PySem.Spec PyProof.Rows
inductive V where
 |non|bl (b:Bool)|int (i:Int)|str (x:Str)|byt (b:Array UInt8)|flt (b:UInt64)|ref (a:Addr)|ty (n:String)
 deriving DecidableEq
def RelV:V->Value->Prop
 |.non,u=>u=Value.none
 |.bl b,u=>u=Value.bool b
 |.int i,u=>∃ t,u=Value.int i t
 |.str x,u=>∃ t,u=Value.str x t
 |.byt b,u=>∃ t,u=Value.bytes b t
 |.flt b,u=>∃ t,u=Value.float b t
 |.ref a,u=>u=Value.ref a
 |.ty n,u=>u=Value.type n
abbrev Vals:List V->List Value->Prop:=Paired RelV
theorem Vals.length {xs:List V}{us:List Value}(r:Vals xs us):xs.length=us.length:=Paired.length r
theorem Vals.get:∀{xs:List V}{us:List Value}{i:Nat}{x:V},Vals xs us->xs[i]?=some x->∃ u,us[i]?=some u/\RelV x u
 |_,_,_,_,.nil,e=>by simp at e
 |_,_,0,_,.cons r _,e=>by simp at e;subst e;exact⟨_,rfl,r⟩
 |_,_,i+1,x,.cons _ t,e=>by
  obtain⟨u,h1,h2⟩:=Vals.get (i:=i) (x:=x) t (by simpa using e);exact⟨u,by simpa using h1,h2⟩
theorem Vals.set {x:V}{u:Value}(r:RelV x u):∀{xs:List V}{us:List Value}(i:Nat),Vals xs us->Vals (xs.set i x) (us.set i u)
 |_,_,_,.nil=>.nil
 |_,_,0,.cons _ t=>.cons r t
 |_,_,i+1,.cons q t=>.cons q (Vals.set r i t)
theorem Vals.append:∀{xs ys:List V}{us ws:List Value},Vals xs us->Vals ys ws->Vals (xs++ys) (us++ws)
 |_,_,_,_,.nil,s=>s
 |_,_,_,_,.cons r t,s=>.cons r (Vals.append t s)
theorem Vals.take:∀{xs:List V}{us:List Value}(n:Nat),Vals xs us->Vals (xs.take n) (us.take n)
 |_,_,0,_=>.nil
 |_,_,_+1,.nil=>.nil
 |_,_,n+1,.cons r t=>.cons r (Vals.take n t)
theorem Vals.drop:∀{xs:List V}{us:List Value}(n:Nat),Vals xs us->Vals (xs.drop n) (us.drop n)
 |_,_,0,r=>r
 |_,_,_+1,.nil=>.nil
 |_,_,n+1,.cons _ t=>Vals.drop n t
def RelO:Option V->Option Value->Prop
 |some v,some u=>RelV v u
 |none,none=>True
 |_,_=>False
def KV {κ:Type}:List (κ×V)->List (κ×Value)->Prop:=Paired fun(p:κ×V)(q:κ×Value)=>p.1=q.1/\RelV p.2 q.2
def kV:Key->V
 |.inl i=>.int i
 |.inr x=>.str x
inductive HO where
 /-- a list -/
 |lst (xs:List V)
 /-- a tuple (never changes) -/
 |tup (xs:List V)
 /-- a dict whose keys are ints and texts;one whose keys are tuples of ints and texts (the empty one is both) -/
 |dK (kvs:List (Key×V))|dT (kvs:List (List Key×V))
 /-- a set of ints: its members,its size -/
 |set (S:Int->Bool)(n:Nat)
 /-- an instance of the class at C,its dict at dx,its attributes -/
 |ins (C dx:Addr)(fs:List (Str×V))
 /-- the dict of the instance at x -/
 |own (x:Addr)
 /-- the dict of an exception -/
 |xd (fs:List (Str×V))
 /-- a bound method,f of x -/
 |met (f x:Addr)
 /-- a range object lo,lo+1,.. below hi -/
 |rng (lo hi:Int)
 /-- a thing that is known to the object (the script;a dict while a loop walks it): read,never written while it is so -/
 |frz (o:Obj)(u:HO)
 /-- a code object's table -/
 |tbl (ps:Array Value)
 /-- the code object of a def of that name -/
 |cod (q:Str)
 /-- any other thing,by what is true of its one object (a def of one's own: SetO a S n:=HO.ext fun h=>..) -/
 |ext (φ:Heap->Prop)
abbrev Hp:=Addr->Option HO
def upd (H:Hp)(a:Addr)(o:HO):Hp:=fun b=>if b=a then some o else H b
theorem zab {H:Hp}{a:Addr}{o:HO}:upd H a o a=some o:=by unfold upd;rw[if_pos rfl]
theorem zad {H:Hp}{a b:Addr}{o:HO}(h:b≠a):upd H a o b=H b:=by unfold upd;rw[if_neg h]
theorem zlj {H:Hp}{a b:Addr}{o u:HO}(h:H a=some o)(h':H b=some u)(d:o≠u):a≠b:=by
 intro e;subst e;rw[h] at h';exact d (Option.some.inj h')
theorem zag {H:Hp}{a b:Addr}{o:HO}(h:H a=some o)(h':H b=none):a≠b:=by
 intro e;subst e;rw[h] at h';cases h'
section
variable (P:Program)(w:World)
def ObjOk (H:Hp)(h:Heap)(a:Addr):HO->Prop
 |.lst xs=>xs.length<=sizeLine/\∃(its:List Value)(n:Nat),Vals xs its/\h.get? a=some { cls:=.type "list",data:=.seq its.toArray n }
 |.tup xs=>xs.length<=sizeLine/\∃ its:List Value,Vals xs its/\IsTup h a its.toArray
 |.dK kvs=>kvs.length<=sizeLine/\(a==sysModules)=false/\∃ vs,KV kvs vs/\h.DictOf (mixKind P w) a vs
 |.dT kvs=>kvs.length<=sizeLine/\(a==sysModules)=false/\∃ xs:List (List Key×Addr×Value),
   Paired (fun(p:List Key×V)(q:List Key×Addr×Value)=>p.1=q.1/\H q.2.1=some (.tup (p.1.map kV))/\RelV p.2 q.2.2) kvs xs /\
   ∃ o es ep,h.get? a=some o/\o.ExactDict/\o.data=.dict es ep/\es.toList=xs.map (entryOfKey (tupleKind (mixKind P w)))/\(xs.map (·.1)).Nodup
 |.set S n=>h.SetOf (intKind P w) a S n
 |.ins C dx fs=>H dx=some (.own a)/\fs.length<=1000/\dx≠a/\h.get? a=some (PySem.W.instObj C dx) /\
   ∃ mA,h.Ns1 dx mA/\(∀ f,RelO (fs.lookup f) (mA f))/\PySem.Within mA (fs.map (·.1))
 |.own _=>∃ o,h.get? a=some o
 |.xd fs=>∃ mA,h.Ns1 a mA/\∀ f,RelO (fs.lookup f) (mA f)
 |.rng lo hi=>∃ t u v,h.get? a=some { cls:=.type "range",data:=.fields #[.int lo t,.int hi u,.int 1 v] }
 |.frz o u=>h.get? a=some o/\ObjOk H h a u
 |.tbl ps=>∃ more:Array Value,h.get? a=some { cls:=.none,data:=.fields more }/\(more=#[]\/∃(c:Addr)(q:Str)(k:Tok)(l m:Nat),more=#[rawInt l,rawInt m,.ref c]/\ps=#[.str q k,rawInt l,rawInt m]/\H c=some (.cod q))
 |.cod q=>h.CodeRec (.ref a) q
 |.met f x=>h.get? a=some (PySem.W.methodObj (.ref f) (.ref x))
 |.ext φ=>φ h/\(∃ o,h.get? a=some o)/\∀ h1 h2:Heap,φ h1->(∀ o,h1.get? a=some o->h2.get? a=some o)->φ h2
def HOk (H:Hp)(h:Heap):Prop:=∀ a o,H a=some o->ObjOk P w H h a o
end
section
variable {P:Program}{w:World}{H H':Hp}{h h':Heap}{a:Addr}{o:HO}
theorem ObjOk.lt (x:ObjOk P w H h a o):a<h.objs.size:=by
 cases o with
 |lst xs=>obtain⟨_,_,_,_,e⟩:=x;exact Heap.lt_size e
 |tup xs=>obtain⟨_,_,_,p⟩:=x;exact p.lt
 |dK kvs=>obtain⟨_,_,_,_,o,_,_,e,_⟩:=x;exact Heap.lt_size e
 |dT kvs=>obtain⟨_,_,_,_,o,_,_,e,_⟩:=x;exact Heap.lt_size e
 |set S n=>obtain⟨o,_,_,_,e,_⟩:=x;exact Heap.lt_size e
 |ins C dx fs=>obtain⟨_,_,_,e,_⟩:=x;exact Heap.lt_size e
 |own y=>obtain⟨_,e⟩:=x;exact Heap.lt_size e
 |xd fs=>obtain⟨_,⟨_,_,_,e,_⟩,_⟩:=x;exact Heap.lt_size e
 |rng lo hi=>obtain⟨_,_,_,e⟩:=x;exact Heap.lt_size e
 |frz ob u=>obtain⟨e,_⟩:=x;exact Heap.lt_size e
 |tbl ps=>obtain⟨_,e,_⟩:=x;exact Heap.lt_size e
 |cod q=>obtain⟨c,o,vs,t,e,e1,_⟩:=x;cases e;exact Heap.lt_size e1
 |met f y=>exact Heap.lt_size (show h.get? a=some _ from x)
 |ext φ=>obtain⟨_,⟨_,e⟩,_⟩:=x;exact Heap.lt_size e
theorem Paired.mapP {α β:Type}{F G:α->β->Prop}:∀{l₁:List α}{l₂:List β},Paired F l₁ l₂->(∀ a b,F a b->G a b)->Paired G l₁ l₂
 |_,_,.nil,_=>.nil
 |_,_,.cons r t,f=>.cons (f _ _ r) (Paired.mapP t f)
theorem ObjOk.stay (x:ObjOk P w H h a o)(k:∀ b u,(b=a\/H b=some (.own a))->h.get? b=some u->h'.get? b=some u)
  (ho:∀ b,H b=some (.own a)->H' b=some (.own a))(ht:∀ b xs,H b=some (.tup xs)->H' b=some (.tup xs))(hc:∀ b q,H b=some (.cod q)->H' b=some (.cod q):=by exact fun _ _ q=>q):ObjOk P w H' h' a o:=by
 induction o with
 |lst xs=>obtain⟨z,its,n,r,e⟩:=x;exact⟨z,its,n,r,k _ _ (.inl rfl) e⟩
 |tup xs=>obtain⟨z,its,r,ob,e,c⟩:=x;exact⟨z,its,r,ob,k _ _ (.inl rfl) e,c⟩
 |dK kvs=>obtain⟨z,y,vs,r,ob,es,ep,e,c⟩:=x;exact⟨z,y,vs,r,ob,es,ep,k _ _ (.inl rfl) e,c⟩
 |dT kvs=>
  obtain⟨z,y,xs,r,ob,es,ep,e,c⟩:=x;exact⟨z,y,xs,Paired.mapP r fun p q z=>⟨z.1,ht _ _ z.2.1,z.2.2⟩,ob,es,ep,k _ _ (.inl rfl) e,c⟩
 |set S n=>obtain⟨ob,es,ep,t,e,c⟩:=x;exact⟨ob,es,ep,t,k _ _ (.inl rfl) e,c⟩
 |ins C dx fs=>
  obtain⟨d,z,ne,e,mA,⟨od,es,ep,e2,c⟩,r⟩:=x;exact⟨ho _ d,z,ne,k _ _ (.inl rfl) e,mA,⟨od,es,ep,k _ _ (.inr d) e2,c⟩,r⟩
 |own y=>obtain⟨ob,e⟩:=x;exact⟨ob,k _ _ (.inl rfl) e⟩
 |xd fs=>obtain⟨mA,⟨od,es,ep,e,c⟩,r⟩:=x;exact⟨mA,⟨od,es,ep,k _ _ (.inl rfl) e,c⟩,r⟩
 |rng lo hi=>obtain⟨t,u,v,e⟩:=x;exact⟨t,u,v,k _ _ (.inl rfl) e⟩
 |frz ob u ih=>obtain⟨e,q⟩:=x;exact⟨k _ _ (.inl rfl) e,ih q⟩
 |tbl ps=>
  obtain⟨more,e,r⟩:=x;refine⟨more,k a _ (.inl rfl) e,?_⟩;rcases r with r|⟨c,q,tk,l,m,e1,e2,e3⟩
  ·exact .inl r
  ·exact .inr ⟨c,q,tk,l,m,e1,e2,hc _ _ e3⟩
 |cod q=>obtain⟨c,o,vs,t,e,e1,e2⟩:=x;cases e;exact⟨a,o,vs,t,rfl,k _ _ (.inl rfl) e1,e2⟩
 |met f y=>
  have e:h.get? a=some (PySem.W.methodObj (.ref f) (.ref y)):=x;show h'.get? a=some (PySem.W.methodObj (.ref f) (.ref y));exact k a _ (.inl rfl) e
 |ext φ=>obtain⟨p,⟨o,e⟩,st⟩:=x;exact⟨st _ _ p fun o q=>k _ _ (.inl rfl) q,⟨o,k _ _ (.inl rfl) e⟩,st⟩
theorem HOk.lt (x:HOk P w H h)(e:H a=some o):a<h.objs.size:=(x a o e).lt
theorem HOk.fresh (x:HOk P w H h)(e:h.objs.size<=a):H a=none:=by
 cases q:H a with
 |none=>rfl
 |some u=>exact absurd (Nat.lt_of_lt_of_le (x.lt q) e) (Nat.lt_irrefl _)
theorem HOk.kept (x:HOk P w H h)(k:∀ b u,h.get? b=some u->h'.get? b=some u):HOk P w H h':=fun a o e=>
 (x a o e).stay (fun b u _ q=>k b u q) (fun _ q=>q) fun _ _ q=>q
theorem HOk.laid (x:HOk P w H h)(k:∀ b u,h.get? b=some u->h'.get? b=some u)(hp:h.objs.size<=a)(new:ObjOk P w (upd H a o) h' a o):HOk P w (upd H a o) h':=fun b u e=>by
 have hn:=x.fresh hp;by_cases hb:b=a
 ·subst hb;rw[zab] at e;cases e;exact new
 ·rw[zad hb] at e;exact(x b u e).stay (hc:=fun c xs q=>by rw[zad (zag q hn)];exact q) (fun c v _ q=>k c v q) (fun c q=>by rw[zad (zag q hn)];exact q) fun c xs q=>by rw[zad (zag q hn)];exact q
end
def Rd (H:Hp)(a:Addr)(u:HO):Prop:=H a=some u\/∃ o,H a=some (.frz o u)
theorem Rd.ok {P:Program}{w:World}{H:Hp}{h:Heap}{a:Addr}{u:HO}(r:Rd H a u)(x:HOk P w H h):ObjOk P w H h a u:=by
 rcases r with r|⟨o,r⟩
 ·exact x a u r
 ·obtain⟨_,q⟩:=x a _ r;exact q
def Mut:Option HO->Prop
 |some (.lst _)=>True
 |some (.dK _)=>True
 |some (.dT _)=>True
 |some (.set _ _)=>True
 |some (.ins _ _ _)=>True
 |some (.ext _)=>True
 |_=>False
section
variable {P:Program}{w:World}{H:Hp}{h h':Heap}{x e:Addr}{o':HO}
theorem HOk.write (ok:HOk P w H h)(mu:Mut (H x))(he:e=x\/H e=some (.own x))(k:∀ b u,b≠e->h.get? b=some u->h'.get? b=some u)(heo:∃ u,h'.get? e=some u)
  (new:ObjOk P w (upd H x o') h' x o'):HOk P w (upd H x o') h':=fun b u q=>by
 have nown:∀ c y,H c=some (.own y)->c≠x:=fun c y r z=>by subst z;rw[r] at mu;exact mu
 have ntup:∀ c xs,H c=some (.tup xs)->c≠x:=fun c xs r z=>by subst z;rw[r] at mu;exact mu
 have ncod:∀ c xs,H c=some (.cod xs)->c≠x:=fun c xs r z=>by subst z;rw[r] at mu;exact mu
 by_cases hb:b=x
 ·subst hb;rw[zab] at q;cases q;exact new
 ·rw[zad hb] at q;by_cases hbe:b=e
  ·have q':H b=some (.own x):=by
    rcases he with z|z
    ·exact absurd (hbe.trans z) hb
    ·rw[hbe];exact z
   rw[q] at q';cases q';obtain⟨v,hv⟩:=heo;exact⟨v,by rw[hbe];exact hv⟩
  ·refine(ok b u q).stay (hc:=fun c xs r=>by rw[zad (ncod c xs r)];exact r) (fun c v hc r=>k c v ?_ r) (fun c r=>by rw[zad (nown c b r)];exact r) fun c xs r=>by rw[zad (ntup c xs r)];exact r
   rcases hc with rfl|hc
   ·exact hbe
   ·rintro rfl;rcases he with z|z
    ·exact nown c b hc z
    ·rw[hc] at z;cases z;exact hb rfl
end
structure Un (fs ex:List Addr)(H H':Hp)(h h':Heap):Prop where
 keep:∀ b o,h.get? b=some o->H b=none->b∉fs->b∉ex->h'.get? b=some o
 slot:∀ b o,h.get? b=some o->H b=none->b∈fs->b∉ex->∃ sl,h'.get? b=some { o with slots:=sl }
 free:∀ b o,h.get? b=some o->H b=none->b∉ex->H' b=none
 there:∀ b o,h.get? b=some o->b∉ex->∃ o',h'.get? b=some o'
 tups:∀ b xs,H b=some (.tup xs)->H' b=some (.tup xs)
 frzs:∀ b o u,H b=some (.frz o u)->H' b=some (.frz o u)
 tbls:∀ b ps,H b=some (.tbl ps)->∃ more,H' b=some (.tbl (ps++more))
section
variable {fs fs' ex ex':List Addr}{H H1 H2:Hp}{h h1 h2 h':Heap}{a x e:Addr}{o:HO}
theorem Un.any (u:Un fs ex H H1 h h1){b:Addr}{ob:Obj}(q:h.get? b=some ob)(n:H b=none)(hx:b∉ex):∃ sl,h1.get? b=some { ob with slots:=sl }:=by
 by_cases hb:b∈fs
 ·exact u.slot b ob q n hb hx
 ·exact⟨ob.slots,u.keep b ob q n hb hx⟩
theorem Un.kept (k:∀ b u,h.get? b=some u->h'.get? b=some u):Un fs ex H H h h':=
 ⟨fun b ob q _ _ _=>k b ob q,fun b ob q _ _ _=>⟨ob.slots,k b ob q⟩,fun _ _ _ n _=>n,fun b ob q _=>⟨ob,k b ob q⟩,fun _ _ q=>q,fun _ _ _ q=>q,fun _ ps q=>⟨#[],by rw[q];simp⟩⟩
theorem Un.refl:Un fs ex H H h h:=Un.kept fun _ _ q=>q
theorem Un.laid (k:∀ b u,h.get? b=some u->h'.get? b=some u)(hp:h.objs.size<=a)(hn:H a=none):Un fs ex H (upd H a o) h h' where
 keep:=fun b u q _ _ _=>k b u q
 slot:=fun b u q _ _ _=>⟨u.slots,k b u q⟩
 free:=fun b u q n _=>by rw[zad (Nat.ne_of_lt (Nat.lt_of_lt_of_le (Heap.lt_size q) hp))];exact n
 there:=fun b u q _=>⟨u,k b u q⟩
 tups:=fun b xs q=>by rw[zad (zag q hn)];exact q
 frzs:=fun b u xs q=>by rw[zad (zag q hn)];exact q
 tbls:=fun b ps q=>⟨#[],by rw[zad (zag q hn),q];simp⟩
theorem Un.write (mu:Mut (H x))(he:e=x\/H e=some (.own x))(k:∀ b u,b≠e->h.get? b=some u->h'.get? b=some u)(heo:∃ u,h'.get? e=some u):Un fs ex H (upd H x o) h h':=by
 have hx:∀ b,H b=none->b≠x:=fun b n z=>by subst z;rw[n] at mu;exact mu
 have hb:∀ b,H b=none->b≠e:=fun b n z=>by
  subst z;rcases he with r|r
  ·exact hx b n r
  ·rw[n] at r;cases r
 have hm:∀ b u,H b=some u->¬ Mut (some u)->b≠x:=fun b u q nm z=>by subst z;rw[q] at mu;exact nm mu
 refine⟨fun b u q n _ _=>k b u (hb b n) q,fun b u q n _ _=>⟨u.slots,k b u (hb b n) q⟩,fun b u q n _=>by rw[zad (hx b n)];exact n,fun b u q _=>?_,
  fun b xs q=>by rw[zad (hm b _ q fun z=>z)];exact q,fun b u xs q=>by rw[zad (hm b _ q fun z=>z)];exact q,fun b ps q=>⟨#[],by rw[zad (hm b _ q fun z=>z),q];simp⟩⟩
 by_cases hbe:b=e
 ·subst hbe;exact heo
 ·exact⟨u,k b u hbe q⟩
end
def trk (h:Heap)(H:Hp):List Addr:=(List.range h.objs.size).filter fun a=>(H a).isSome
def hidT (h:Heap)(H:Hp):Heap:=PySem.W.hideAll h (trk h H)
theorem zhF (h:Heap)(H:Hp):(hidT h H).objs.size=h.objs.size:=PySem.W.hideAll_size _ _
theorem zjj {h:Heap}{H:Hp}{b:Addr}{o:Obj}(e:h.get? b=some o)(n:H b=none):(hidT h H).get? b=some o:=
 PySem.W.hideAll_get _ e fun hm=>by
  have q:(H b).isSome=true:=(List.mem_filter.mp hm).2;rw[n] at q;simp at q
theorem zlf {h:Heap}{H:Hp}{b:Addr}{o:Obj}(e:(hidT h H).get? b=some o):h.get? b=some o/\H b=none:=by
 have e':h.get? b=some o:=PySem.W.of_hideAll (trk h H) e;refine⟨e',?_⟩
 cases q:H b with
 |none=>rfl
 |some x=>
  have hm:b∈trk h H:=List.mem_filter.mpr ⟨List.mem_range.mpr (Heap.lt_size e'),by simp [q]⟩;have z:(hidT h H).get? b=none:=PySem.W.hideAll_none (trk h H) hm;rw[z] at e;cases e
def allNews (g h:Heap)(L:Addr):List (Addr×Obj):=(List.range h.objs.size).filterMap fun a=>if a=L\/(g.get? a).isSome=true then none else (h.get? a).map fun o=>(a,o)
def rest (g h:Heap)(L d:Addr):List (Addr×Obj):=(allNews g h L).filter fun p=>decide (p.1≠d)
end L2
namespace L2
open PySem PySem.Spec PyProof.Rows
structure Mod (K:Frag)(mg:Str->Option Value)(base:Heap):Prop where
 kin:K.In base
 glob:base.Ns mainGlobals mg
 blt:∃ mb,base.Ns builtinsNs mb/\∀ x:Str,x≠"__name__"->mb x=bootBuiltins x
 nolimit:base.NoLimit
structure Cx where
 prog:Program
 w:World
 K:Frag
 mg:Str->Option Value
 base:Heap
 A:Around
 N:List Str
 s₀:Shared
 H₀:Hp
 env:Env
 outer:List Env
 stack:List Env
 ex:List Addr
 fn:Str->Bool
 calm:Bool
 pn:List (Addr×Obj)
 xe:Value->Shared->Prop
def frs (l:List Env):List Addr:=l.filterMap (·.frame)
abbrev Cx.fs (X:Cx):List Addr:=frs X.outer
def Vis (sc:Scope)(x:Str):Prop:=sc.names.lookup x=some .local\/sc.names.lookup x=some .cell\/sc.names.lookup x=some .free
def Loc (sc:Scope)(x:Str):Prop:=sc.names.lookup x=some .local\/sc.names.lookup x=some .cell
def Look (env:Env)(h:Heap)(m:Str->Option Value)(x:Str)(u:Value):Prop:=
 (env.kindOf x=some .local/\m x=some u)\/((env.kindOf x=some .cell\/env.kindOf x=some .free)/\∃ c,env.cells.lookup x=some c/\h.IsCell c (some u))
structure Cx.Ok (X:Cx):Prop where
 mod:Mod X.K X.mg X.base
 kind:X.env.scope.kind=.function
 glob:X.env.globals=mainGlobals
 blt:X.env.builtins=builtinsNs
 above:X.s₀.heap.objs.size<=X.env.locals
 inj:∀ x y c,X.env.cells.lookup x=some c->X.env.cells.lookup y=some c->x=y
 has:∀ x,(X.env.kindOf x=some .cell\/X.env.kindOf x=some .free)->∃ c,X.env.cells.lookup x=some c
 cab:∀ x c,X.fn x=true->X.env.cells.lookup x=some c->X.s₀.heap.objs.size<=c
 hd:X.calm=true->X.A.handled=none
 frames:X.A.frames=some X.stack
 stk:X.stack=X.outer\/(X.stack=X.env::X.outer/\X.env.frame=some X.env.locals)
 exf:∀ b∈X.ex,b≠X.env.locals/\∀ x c,X.env.cells.lookup x=some c->c≠b
 bs:∀ b o,X.base.get? b=some o->X.s₀.heap.get? b=some o/\X.H₀ b=none
 bsz:X.base.objs.size<=X.s₀.heap.objs.size
 noex:∀ b o,X.base.get? b=some o->b∉X.ex
 exfs:∀ b∈X.ex,b∉X.fs
 funs:X.s₀.heap.FunFrames X.base X.outer
 frf:∀ b∈X.fs,X.H₀ b=none
structure Inv (X:Cx)(pins:List (Addr×Obj))(σ:List (Option V))(H:Hp)(s:Shared):Prop where
 ok:X.Ok
 os:s.os=X.s₀.os
 bare:AllBare s.gens
 base:Un X.fs X.ex X.H₀ H X.s₀.heap s.heap
 loc:∃ m,s.heap.Ns X.env.locals m/\∀(i:Nat)(x:Str)(v:V),X.N[i]?=some x->σ[i]?=some (some v)->Vis X.env.scope x->∃ u,RelV v u/\Look X.env s.heap m x u
 cell:∀ x c,X.env.cells.lookup x=some c->∃ v,s.heap.IsCell c v
 free:H X.env.locals=none
 freeC:∀ x c,X.env.cells.lookup x=some c->H c=none
 pin:∀ p∈X.pn++pins,s.heap.get? p.1=some p.2/\H p.1=none/\p.1≠X.env.locals/\p.1∉X.fs/\∀ v,p.2.data≠.cell v
 hok:HOk X.prog X.w H s.heap
 len:σ.length=X.N.length
section
variable {X:Cx}{pins:List (Addr×Obj)}{σ:List (Option V)}{H H':Hp}{s:Shared}{h':Heap}
theorem Cx.Ok.nofr (ok:X.Ok){b:Addr}{o:Obj}(e:X.base.get? b=some o):b∉X.fs:=fun hb=>by
 have:=(ok.funs.mem hb).1;rw[e] at this;cases this
theorem Inv.bs (I:Inv X pins σ H s):∀ b o,X.base.get? b=some o->s.heap.get? b=some o/\H b=none:=fun b o e=>
 ⟨I.base.keep b o (I.ok.bs b o e).1 (I.ok.bs b o e).2 (I.ok.nofr e) (I.ok.noex b o e),I.base.free b o (I.ok.bs b o e).1 (I.ok.bs b o e).2 (I.ok.noex b o e)⟩
theorem Inv.bk (I:Inv X pins σ H s):∀ b o,X.base.get? b=some o->s.heap.get? b=some o:=fun b o e=>(I.bs b o e).1
theorem Inv.mod (I:Inv X pins σ H s):Mod X.K X.mg X.base:=I.ok.mod
theorem Inv.kIn (I:Inv X pins σ H s):X.K.In s.heap:=I.ok.mod.kin.keeps I.bk
theorem Inv.lt (I:Inv X pins σ H s):X.env.locals<s.heap.objs.size:=let ⟨_,hn,_⟩:=I.loc;hn.lt
theorem Inv.sz (I:Inv X pins σ H s):X.s₀.heap.objs.size<=s.heap.objs.size:=Nat.le_trans I.ok.above (Nat.le_of_lt I.lt)
theorem Inv.nofs (I:Inv X pins σ H s){a:Addr}(h:s.heap.objs.size<=a):a∉X.fs:=fun hb=>by
 obtain⟨_,o,ho,_⟩:=I.ok.funs.mem hb;exact absurd (Nat.lt_of_lt_of_le (Heap.lt_size ho) (Nat.le_trans I.sz h)) (Nat.lt_irrefl _)
theorem Inv.cne (I:Inv X pins σ H s):∀ x c,X.env.cells.lookup x=some c->c≠X.env.locals:=fun x c e z=>by
 obtain⟨v,o,ho,hd⟩:=I.cell x c e;obtain⟨m,⟨o',es,ep,ho',hd',_⟩,_⟩:=I.loc;rw[z,ho'] at ho;cases ho;rw[hd'] at hd;cases hd
theorem Inv.funs (I:Inv X pins σ H s):s.heap.FunFrames X.base X.outer:=by
 have all:∀(l:List Env),(∀ b∈frs l,b∈X.fs)->X.s₀.heap.FunFrames X.base l->s.heap.FunFrames X.base l:=by
  intro l
  induction l with
  |nil=>intro _ _;trivial
  |cons env r ih=>
   intro hs hl;obtain⟨hk,⟨L,o,hf,hn,ho,hd⟩,hr⟩:=hl;have hL:L∈X.fs:=hs L (by unfold frs;rw[List.filterMap_cons,hf];exact List.mem_cons_self);obtain⟨sl,e⟩:=I.base.slot L o ho (I.ok.frf L hL) hL fun z=>I.ok.exfs L z hL;exact⟨hk,⟨L,_,hf,hn,e,hd⟩,ih (fun b hb=>hs b (by unfold frs;rw[List.filterMap_cons,hf];exact List.mem_cons_of_mem _ hb)) hr⟩
 exact all X.outer (fun _ hb=>hb) I.ok.funs
theorem Inv.stack (I:Inv X pins σ H s):s.heap.FunFrames X.base X.stack:=by
 rcases I.ok.stk with e|⟨e,hf⟩
 ·rw[e];exact I.funs
 ·rw[e];obtain⟨m,hn,_⟩:=I.loc;refine .cons (by rw[I.ok.kind];decide) hf hn ?_ I.funs;exact Heap.get?_none_of_le (Nat.le_trans I.ok.bsz I.ok.above)
theorem Inv.stkSub (I:Inv X pins σ H s):∀ b∈frs X.stack,b∈X.env.locals::X.fs:=fun b hb=>by
 rcases I.ok.stk with e|⟨e,hf⟩
 ·rw[e] at hb;exact List.mem_cons_of_mem _ hb
 ·rw[e] at hb;unfold frs at hb;rw[List.filterMap_cons,hf] at hb;exact hb
theorem Inv.stkFree (I:Inv X pins σ H s):∀ b∈frs X.stack,H b=none:=fun b hb=>by
 rcases List.mem_cons.mp (I.stkSub b hb) with e|hb
 ·rw[e];exact I.free
 ·obtain⟨_,o,ho,_⟩:=I.ok.funs.mem hb;exact I.base.free b o ho (I.ok.frf b hb) fun z=>I.ok.exfs b z hb
theorem Inv.step {g':Array GenState}{t':Nat}{d':Drawn}{ch:List Addr}(I:Inv X pins σ H s)
  (hch:∀ b∈ch,(b∈X.ex\/X.s₀.heap.objs.size<=b)/\b≠X.env.locals/\(∀ x c,X.env.cells.lookup x=some c->c≠b)/\∀ p∈X.pn++pins,p.1≠b)
  (keep:∀ b o,b≠X.env.locals->b∉X.fs->b∉ch->s.heap.get? b=some o->H b=none->h'.get? b=some o)
  (slot:∀ b o,b≠X.env.locals->b∈X.fs->b∉ch->s.heap.get? b=some o->H b=none->∃ sl,h'.get? b=some { o with slots:=sl })(free:∀ b o,b∉ch->s.heap.get? b=some o->H b=none->H' b=none)
  (there:∀ b o,b∉ch->s.heap.get? b=some o->∃ o',h'.get? b=some o')
  (tups:∀ b xs,H b=some (.tup xs)->H' b=some (.tup xs))(frzs:∀ b o u,H b=some (.frz o u)->H' b=some (.frz o u))(tbls:∀ b ps,H b=some (.tbl ps)->∃ more,H' b=some (.tbl (ps++more)))
  (ns:∀ m,s.heap.Ns X.env.locals m->h'.Ns X.env.locals m)(hok:HOk X.prog X.w H' h')(hg:AllBare g') :
  Inv X pins σ H' { s with heap:=h',gens:=g',drawn:=d',toks:=t' }:=by
 have neL:∀ b o,X.s₀.heap.get? b=some o->b≠X.env.locals:=fun b o e=>Nat.ne_of_lt (Nat.lt_of_lt_of_le (Heap.lt_size e) I.ok.above)
 have neC:∀ b o,X.s₀.heap.get? b=some o->b∉X.ex->b∉ch:=fun b o e hx hb=>by
  rcases (hch b hb).1 with z|z
  ·exact hx z
  ·exact absurd (Nat.lt_of_lt_of_le (Heap.lt_size e) z) (Nat.lt_irrefl _)
 have cellK:∀ x c,X.env.cells.lookup x=some c->∀ v,s.heap.IsCell c v->h'.IsCell c v:=fun x c e v ⟨o,ho,hd⟩=>by
  have nch:c∉ch:=fun z=>(hch c z).2.2.1 x c e rfl;by_cases hc:c∈X.fs
  ·obtain⟨sl,q⟩:=slot c o (I.cne x c e) hc nch ho (I.freeC x c e);exact⟨_,q,hd⟩
  ·exact⟨o,keep c o (I.cne x c e) hc nch ho (I.freeC x c e),hd⟩
 refine⟨I.ok,I.os,hg,⟨fun b o e n hb hx=>?_,fun b o e n hb hx=>?_,fun b o e n hx=>?_,fun b o e hx=>?_,fun b xs e=>tups b xs (I.base.tups b xs e),fun b o xs e=>frzs b o xs (I.base.frzs b o xs e),fun b ps e=>?_⟩,?_,fun x c e=>?_,?_,fun x c e=>?_,fun p hp=>?_,hok,I.len⟩
 ·exact keep b o (neL b o e) hb (neC b o e hx) (I.base.keep b o e n hb hx) (I.base.free b o e n hx)
 ·obtain⟨sl,e1⟩:=I.base.slot b o e n hb hx;obtain⟨sl',e2⟩:=slot b _ (neL b o e) hb (neC b o e hx) e1 (I.base.free b o e n hx);exact⟨sl',e2⟩
 ·obtain⟨o',e1⟩:=I.base.there b o e hx;exact free b o' (neC b o e hx) e1 (I.base.free b o e n hx)
 ·obtain⟨o',e1⟩:=I.base.there b o e hx;exact there b o' (neC b o e hx) e1
 ·obtain⟨m1,e1⟩:=I.base.tbls b ps e;obtain⟨m2,e2⟩:=tbls b _ e1;exact⟨m1++m2,by rw[e2,Array.append_assoc]⟩
 ·obtain⟨m,hn,hl⟩:=I.loc;refine⟨m,ns m hn,fun i x v e1 e2 e3=>?_⟩;obtain⟨u,r,l⟩:=hl i x v e1 e2 e3;refine⟨u,r,?_⟩;rcases l with l|⟨k,c,e,z⟩
  ·exact .inl l
  ·exact .inr ⟨k,c,e,cellK x c e _ z⟩
 ·obtain⟨v,z⟩:=I.cell x c e;exact⟨v,cellK x c e v z⟩
 ·obtain⟨m,⟨o,_,_,ho,_⟩,_⟩:=I.loc;exact free _ o (fun z=>(hch _ z).2.1 rfl) ho I.free
 ·obtain⟨v,o,ho,hd⟩:=I.cell x c e;exact free c o (fun z=>(hch c z).2.2.1 x c e rfl) ho (I.freeC x c e)
 ·obtain⟨e,n,ne,nf,d⟩:=I.pin p hp;have nch:p.1∉ch:=fun z=>(hch p.1 z).2.2.2 p hp rfl;exact⟨keep p.1 p.2 ne nf nch e n,free p.1 p.2 nch e n,ne,nf,d⟩
theorem Inv.un {t':Nat}(I:Inv X pins σ H s)(u:Un X.fs [] H H' s.heap h')(hok:HOk X.prog X.w H' h'):Inv X pins σ H' { s with heap:=h',toks:=t' }:=by
 obtain⟨m,⟨o,es,ep,ho,r⟩,_⟩:=id I.loc;obtain⟨sl,hL⟩:=u.any ho I.free (by simp)
 exact I.step (g':=s.gens) (d':=s.drawn) (ch:=[]) (fun _ z=>nomatch z) (fun b o _ hb _ e n=>u.keep b o e n hb (by simp)) (fun b o _ hb _ e n=>u.slot b o e n hb (by simp)) (fun b o _ e n=>u.free b o e n (by simp)) (fun b o _ e=>u.there b o e (by simp)) u.tups u.frzs u.tbls (fun m' hm=>by
  obtain⟨o',es',ep',ho',r'⟩:=hm;rw[ho] at ho';cases ho'
  exact⟨_,es',ep',hL,r'⟩) hok I.bare
theorem Inv.call {g':Array GenState}{t':Nat}{d':Drawn}{ch:List Addr}(I:Inv X pins σ H s)(u:Un (frs X.stack) ch H H' s.heap h')(hok:HOk X.prog X.w H' h')(hg:AllBare g')
  (hch:∀ b∈ch,(b∈X.ex\/X.s₀.heap.objs.size<=b)/\b≠X.env.locals/\(∀ x c,X.env.cells.lookup x=some c->c≠b)/\∀ p∈X.pn++pins,p.1≠b) :
  Inv X pins σ H' { s with heap:=h',gens:=g',drawn:=d',toks:=t' }:=by
 obtain⟨m,⟨o,es,ep,ho,r⟩,_⟩:=id I.loc;obtain⟨sl,hL⟩:=u.any ho I.free fun z=>(hch _ z).2.1 rfl
 exact I.step (ch:=ch) hch (fun b o hL hb hc e n=>u.keep b o e n (fun z=>(List.mem_cons.mp (I.stkSub b z)).elim hL hb) hc) (fun b o _ _ hc e n=>u.any e n hc) (fun b o hc e n=>u.free b o e n hc) (fun b o hc e=>u.there b o e hc) u.tups u.frzs u.tbls (fun m' hm=>by
  obtain⟨o',es',ep',ho',r'⟩:=hm;rw[ho] at ho';cases ho'
  exact⟨_,es',ep',hL,r'⟩) hok hg
theorem Inv.turned {t':Nat}{it:Addr}(I:Inv X pins σ H s)(k:∀ b o,b≠it->s.heap.get? b=some o->h'.get? b=some o)(hn:H it=none)(hL:it≠X.env.locals)
  (h1:it∈X.ex\/X.s₀.heap.objs.size<=it)(h2:∀ x c,X.env.cells.lookup x=some c->c≠it)(h3:∀ p∈X.pn++pins,p.1≠it):Inv X pins σ H { s with heap:=h',toks:=t' }:=by
 have nit:∀ b u,H b=some u->b≠it:=fun b u e z=>by rw[z,hn] at e;cases e
 refine I.step (g':=s.gens) (d':=s.drawn) (ch:=[it]) (fun b hb=>?_) (fun b o _ _ hc e _=>k b o (fun z=>hc (by simp [z])) e) (fun b o _ _ hc e _=>⟨o.slots,k b o (fun z=>hc (by simp [z])) e⟩) (fun _ _ _ _ n=>n)
  (fun b o hc e=>⟨o,k b o (fun z=>hc (by simp [z])) e⟩) (fun _ _ e=>e) (fun _ _ _ e=>e) (fun b ps e=>⟨#[],by rw[e];simp⟩) (fun m hm=>?_) (fun b u e=>?_) I.bare
 ·have e:b=it:=by simpa using hb
  subst e;exact⟨h1,hL,h2,h3⟩
 ·obtain⟨o,es,ep,ho,r⟩:=hm;exact⟨o,es,ep,k _ o (Ne.symm hL) ho,r⟩
 ·refine(I.hok b u e).stay (fun c v hc q=>k c v ?_ q) (fun _ q=>q) fun _ _ q=>q;rcases hc with z|z
  ·rw[z];exact nit b u e
  ·exact nit c _ z
theorem Inv.tok (I:Inv X pins σ H s)(t:Nat):Inv X pins σ H { s with toks:=t }:=I.un (h':=s.heap) (t':=t) Un.refl I.hok
theorem Inv.kept {t':Nat}(I:Inv X pins σ H s)(k:∀ b u,s.heap.get? b=some u->h'.get? b=some u):Inv X pins σ H { s with heap:=h',toks:=t' }:=I.un (Un.kept k) (I.hok.kept k)
theorem Inv.laid {a:Addr}{o:HO}{t':Nat}(I:Inv X pins σ H s)(k:∀ b u,s.heap.get? b=some u->h'.get? b=some u)(hp:s.heap.objs.size<=a)(new:ObjOk X.prog X.w (upd H a o) h' a o) :
  Inv X pins σ (upd H a o) { s with heap:=h',toks:=t' }:=I.un (Un.laid k hp (I.hok.fresh hp)) (I.hok.laid k hp new)
theorem Inv.write {x e:Addr}{o:HO}{t':Nat}(I:Inv X pins σ H s)(mu:Mut (H x))(he:e=x\/H e=some (.own x))(k:∀ b u,b≠e->s.heap.get? b=some u->h'.get? b=some u)(heo:∃ u,h'.get? e=some u)
  (new:ObjOk X.prog X.w (upd H x o) h' x o):Inv X pins σ (upd H x o) { s with heap:=h',toks:=t' }:=I.un (Un.write mu he k heo) (I.hok.write mu he k heo new)
theorem Inv.pins_of {pins':List (Addr×Obj)}(I:Inv X pins σ H s)(h:∀ p∈pins',s.heap.get? p.1=some p.2/\H p.1=none/\p.1≠X.env.locals/\p.1∉X.fs/\∀ v,p.2.data≠.cell v):Inv X pins' σ H s:=
 ⟨I.ok,I.os,I.bare,I.base,I.loc,I.cell,I.free,I.freeC,fun p hp=>(List.mem_append.mp hp).elim (fun z=>I.pin p (List.mem_append_left _ z)) (h p),I.hok,I.len⟩
theorem zfz {N:List Str}(hN:N.Nodup){i j:Nat}{x:Str}(a:N[i]?=some x)(b:N[j]?=some x):i=j:=by
 obtain⟨h1,e1⟩:=List.getElem?_eq_some_iff.mp a;obtain⟨h2,e2⟩:=List.getElem?_eq_some_iff.mp b;exact(List.getElem_inj hN).mp (e1.trans e2.symm)
theorem zdY {M:Model}{A:Around}{E:Value->Shared->Prop}{i:Nat}{x:Str}{v:V}{u:Value}{Q:Unit->Shared->Prop}(I:Inv X pins σ H s)(hN:X.N.Nodup)(hi:X.N[i]?=some x)(hx:Loc X.env.scope x)(r:RelV v u)
  (h:∀ s',Inv X pins (σ.set i (some v)) H s'->(∃ a,Heap.SameBut a s.heap s'.heap/\(a=X.env.locals\/X.env.cells.lookup x=some a))->Q () s')(hf:X.fn x=true\/X.env.scope.names.lookup x=some .local:=by first|exact .inl rfl|exact .inr rfl|assumption):wpAny M A (storeName X.env x u) Q E s:=by
 obtain⟨m,hn,hl⟩:=id I.loc;have hcls:(X.env.scope.kind==.class||(X.env.scope.kind==.module&&X.env.locals != X.env.globals))=false:=by rw[I.ok.kind];rfl
 have hiσ:i<σ.length:=by rw[I.len];exact(List.getElem?_eq_some_iff.mp hi).1
 have cne:=I.cne
 have tracked:∀{a:Addr}{h':Heap},(∃ o,s.heap.get? a=some o/\H a=none)->Heap.SameBut a s.heap h'->HOk X.prog X.w H h':=fun {a h'} ha hs b ob e=>by
  obtain⟨_,_,hfree⟩:=ha;refine(I.hok b ob e).stay (fun c w' hc q=>(hs.2 c ?_).trans q) (fun _ q=>q) fun _ _ q=>q;rintro rfl;rcases hc with rfl|hc
  ·rw[hfree] at e;cases e
  ·rw[hfree] at hc;cases hc
 rcases hx with hk|hk
 ·refine wpAny_storeName_local hk hn (fun h' hn' hs=>?_) hcls;obtain⟨oL,_,_,hoL,_⟩:=id hn;refine h _ ⟨I.ok,I.os,I.bare,⟨fun b o e n hb hx=>?_,fun b o e n hb hx=>?_,I.base.free,fun b o e hx=>?_,I.base.tups,I.base.frzs,I.base.tbls⟩,⟨_,hn',fun j y v' e1 e2 e3=>?_⟩,fun y c e=>?_,I.free,I.freeC,fun p hp=>?_,tracked ⟨oL,hoL,I.free⟩ hs,by simpa using I.len⟩ ⟨_,hs,.inl rfl⟩
  ·exact(hs.2 b (Nat.ne_of_lt (Nat.lt_of_lt_of_le (Heap.lt_size e) I.ok.above))).trans (I.base.keep b o e n hb hx)
  ·obtain⟨sl,e1⟩:=I.base.slot b o e n hb hx;exact⟨sl,(hs.2 b (Nat.ne_of_lt (Nat.lt_of_lt_of_le (Heap.lt_size e) I.ok.above))).trans e1⟩
  ·obtain⟨o',e1⟩:=I.base.there b o e hx;exact⟨o',(hs.2 b (Nat.ne_of_lt (Nat.lt_of_lt_of_le (Heap.lt_size e) I.ok.above))).trans e1⟩
  ·by_cases hj:j=i
   ·subst hj;rw[hi] at e1;cases e1;rw[List.getElem?_set_self hiσ] at e2;cases e2;exact⟨u,r,.inl ⟨hk,by simp⟩⟩
   ·rw[List.getElem?_set_ne (Ne.symm hj)] at e2;obtain⟨u',r',q⟩:=hl j y v' e1 e2 e3;refine⟨u',r',?_⟩;rcases q with ⟨k,e⟩|⟨k,c,e,z⟩
    ·refine .inl ⟨k,?_⟩;have:y≠x:=fun e=>hj (zfz hN e1 (e▸hi));simp [this,e]
    ·exact .inr ⟨k,c,e,z.sameBut hs (cne y c e)⟩
  ·obtain⟨w',z⟩:=I.cell y c e;exact⟨w',z.sameBut hs (cne y c e)⟩
  ·obtain⟨e,n,ne,nf,d⟩:=I.pin p hp;exact⟨(hs.2 p.1 ne).trans e,n,ne,nf,d⟩
 ·have hfn:X.fn x=true:=by
   rcases hf with z|z
   ·exact z
   ·rw[z] at hk;cases hk
  obtain⟨c,hc⟩:=I.ok.has x (.inl hk);obtain⟨w',z⟩:=I.cell x c hc;refine wpAny_storeName_cell I.ok.kind hk hc z (fun h' hc' hs=>?_);obtain⟨oc,hoc,hocd⟩:=id z;refine h { s with heap:=h' } ⟨I.ok,I.os,I.bare,⟨fun b o e n hb hx=>?_,fun b o e n hb hx=>?_,I.base.free,fun b o e hx=>?_,I.base.tups,I.base.frzs,I.base.tbls⟩,⟨m,hn.sameBut hs (Ne.symm (cne x c hc)),fun j y v' e1 e2 e3=>?_⟩,fun y c' e=>?_,I.free,I.freeC,fun p hp=>?_,tracked ⟨oc,hoc,I.freeC x c hc⟩ hs,by simpa using I.len⟩ ⟨c,hs,.inr hc⟩
  ·exact(hs.2 b (Nat.ne_of_lt (Nat.lt_of_lt_of_le (Heap.lt_size e) (I.ok.cab x c hfn hc)))).trans (I.base.keep b o e n hb hx)
  ·obtain⟨sl,e1⟩:=I.base.slot b o e n hb hx;exact⟨sl,(hs.2 b (Nat.ne_of_lt (Nat.lt_of_lt_of_le (Heap.lt_size e) (I.ok.cab x c hfn hc)))).trans e1⟩
  ·obtain⟨o',e1⟩:=I.base.there b o e hx;exact⟨o',(hs.2 b (Nat.ne_of_lt (Nat.lt_of_lt_of_le (Heap.lt_size e) (I.ok.cab x c hfn hc)))).trans e1⟩
  ·by_cases hj:j=i
   ·subst hj;rw[hi] at e1;cases e1;rw[List.getElem?_set_self hiσ] at e2;cases e2;exact⟨u,r,.inr ⟨.inl hk,c,hc,hc'⟩⟩
   ·rw[List.getElem?_set_ne (Ne.symm hj)] at e2;obtain⟨u',r',q⟩:=hl j y v' e1 e2 e3;refine⟨u',r',?_⟩;rcases q with q|⟨k,c',e,z'⟩
    ·exact .inl q
    ·refine .inr ⟨k,c',e,z'.sameBut hs ?_⟩;rintro rfl;exact hj (zfz hN e1 (I.ok.inj _ _ _ e hc▸hi))
  ·by_cases hcc:c'=c
   ·subst hcc;exact⟨_,hc'⟩
   ·obtain⟨w2,z2⟩:=I.cell y c' e;exact⟨w2,z2.sameBut hs hcc⟩
  ·obtain⟨e,n,ne,nf,d⟩:=I.pin p hp;refine⟨(hs.2 p.1 ?_).trans e,n,ne,nf,d⟩;intro q;rw[q,hoc] at e;have q':oc=p.2:=Option.some.inj e;exact d w' (by rw[<- q'];exact hocd)
theorem zft {M:Model}{A:Around}{E:Value->Shared->Prop}{i:Nat}{x:Str}{v:V}{u:Value}{Q:Unit->Shared->Prop}(I:Inv X pins σ H s)(hN:X.N.Nodup)(hi:X.N[i]?=some x)(hx:Loc X.env.scope x)(r:RelV v u)
  (h:∀ s',Inv X pins (σ.set i (some v)) H s'->Q () s')(hf:X.fn x=true\/X.env.scope.names.lookup x=some .local:=by first|exact .inl rfl|exact .inr rfl|assumption):wpAny M A (storeName X.env x u) Q E s:=
 zdY I hN hi hx r (fun s' I' _=>h s' I') hf
theorem Inv.call' {s':Shared}{ch:List Addr}(I:Inv X pins σ H s)(ho:s'.os=s.os)(u:Un (frs X.stack) ch H H' s.heap s'.heap)(hok:HOk X.prog X.w H' s'.heap)(hg:AllBare s'.gens)
  (hch:∀ b∈ch,(b∈X.ex\/X.s₀.heap.objs.size<=b)/\b≠X.env.locals/\(∀ x c,X.env.cells.lookup x=some c->c≠b)/\∀ p∈X.pn++pins,p.1≠b):Inv X pins σ H' s':=by
 obtain⟨h',g',d',t',o'⟩:=s';have e:o'=s.os:=ho;subst e;exact I.call (g':=g') (t':=t') (d':=d') u hok hg hch
end
abbrev XK:=Value->Option Addr->Hp->Prop
abbrev St:=List (Option V)
abbrev VK:=V->Hp->Prop
abbrev TE:=St->Hp->VK->Prop
abbrev TT:=St->Hp->(Bool->Hp->Prop)->Prop
abbrev TA:=St->Hp->(List V->Hp->Prop)->Prop
structure Ends where
 nx:St->Hp->Prop
 rt:VK
 bk:St->Hp->Prop:=fun _ _=>False
 ct:St->Hp->Prop:=fun _ _=>False
abbrev TS:=Ends->St->Hp->Prop
def EP (X:Cx)(pins:List (Addr×Obj))(σ:St)(Q:VK)(u:Value)(s':Shared):Prop:=∃ v H',Inv X pins σ H' s'/\RelV v u/\Q v H'
def TP (X:Cx)(pins:List (Addr×Obj))(σ:St)(Q:Bool->Hp->Prop)(b:Bool)(s':Shared):Prop:=∃ H',Inv X pins σ H' s'/\Q b H'
def AP (X:Cx)(pins:List (Addr×Obj))(σ:St)(Q:List V->Hp->Prop)(us:List Value)(s':Shared):Prop:=∃ vs H',Inv X pins σ H' s'/\Vals vs us/\Q vs H'
def SP (X:Cx)(pins:List (Addr×Obj))(D:Ends)(f:Flow)(s':Shared):Prop:=
 match f with
 |.next=>∃ σ' H',Inv X pins σ' H' s'/\D.nx σ' H'
 |.brk=>∃ σ' H',Inv X pins σ' H' s'/\D.bk σ' H'
 |.cont=>∃ σ' H',Inv X pins σ' H' s'/\D.ct σ' H'
 |.ret u=>∃ v σ' H',Inv X pins σ' H' s'/\RelV v u/\D.rt v H'
def PE (X:Cx)(e:Expr)(t:TE):Prop:=
 ∀(pins:List (Addr×Obj))(s:Shared)(σ:St)(H:Hp)(Q:VK),Inv X pins σ H s->t σ H Q->wpAny (model X.prog X.w) X.A (eval e X.env) (EP X pins σ Q) X.xe s
def PT (X:Cx)(e:Expr)(t:TT):Prop:=
 ∀(pins:List (Addr×Obj))(s:Shared)(σ:St)(H:Hp)(Q:Bool->Hp->Prop),Inv X pins σ H s->t σ H Q->wpAny (model X.prog X.w) X.A (isTrue e X.env (eval e X.env)) (TP X pins σ Q) X.xe s
def PW (X:Cx)(e:Expr)(t:TT):Prop:=
 ∀(whole:Sem Value)(pins:List (Addr×Obj))(s:Shared)(σ:St)(H:Hp)(Q:Bool->Hp->Prop),Inv X pins σ H s->t σ H Q->wpAny (model X.prog X.w) X.A (isTrue e X.env whole) (TP X pins σ Q) X.xe s
theorem PW.pt {X:Cx}{e:Expr}{t:TT}(h:PW X e t):PT X e t:=h _
def PA (X:Cx)(es:List Expr)(t:TA):Prop:=
 ∀(pos:Pos)(pins:List (Addr×Obj))(s:Shared)(σ:St)(H:Hp)(Q:List V->Hp->Prop),Inv X pins σ H s->t σ H Q->wpAny (model X.prog X.w) X.A (spliced (backTo pos (starEach es X.env))) (AP X pins σ Q) X.xe s
def PS (X:Cx)(st:Stmt)(t:TS):Prop:=
 ∀(pins:List (Addr×Obj))(s:Shared)(σ:St)(H:Hp)(D:Ends),Inv X pins σ H s->t D σ H->wpAny (model X.prog X.w) X.A (exec st X.env) (SP X pins D) X.xe s
def PSs (X:Cx)(st:List Stmt)(t:TS):Prop:=
 ∀(pins:List (Addr×Obj))(s:Shared)(σ:St)(H:Hp)(D:Ends),Inv X pins σ H s->t D σ H->wpAny (model X.prog X.w) X.A (execs st X.env) (SP X pins D) X.xe s
theorem thn {α:Type}{t:Sem α}{Q Q':α->Shared->Prop}{M:Model}{A:Around}{E:Value->Shared->Prop}{s:Shared}(h:wpAny M A t Q E s)(hQ:∀ a s,Q a s->Q' a s):wpAny M A t Q' E s:=wpAny_mono h hQ fun _ _ x=>x
end L2
namespace L2
open PySem PySem.Spec PyProof.Rows
section
variable {X:Cx}
theorem bin {a b:Expr}{ta tb:TE}(ha:PE X a ta)(hb:PE X b tb){pins:List (Addr×Obj)}{s:Shared}{σ:St}{H:Hp}{R:V->V->Hp->Prop}(I:Inv X pins σ H s)(h:ta σ H fun x H1=>tb σ H1 fun y H2=>R x y H2)
  {α:Type}{Q:α->Shared->Prop}{f:Value->Value->Sem α}
  (hf:∀ v u s2 x y H2,Inv X pins σ H2 s2->RelV x v->RelV y u->R x y H2->wpAny (model X.prog X.w) X.A (f v u) Q X.xe s2) :
  wpAny (model X.prog X.w) X.A (eval a X.env) (fun v s₁=>wpAny (model X.prog X.w) X.A (eval b X.env) (fun u s₂=>wpAny (model X.prog X.w) X.A (f v u) Q X.xe s₂) X.xe s₁) X.xe s:=by
 refine thn (ha pins s σ H _ I h) fun v s1 ⟨x,H1,I1,r1,q1⟩=>?_;refine thn (hb pins s1 σ H1 _ I1 q1) fun u s2 ⟨y,H2,I2,r2,q2⟩=>?_;exact hf v u s2 x y H2 I2 r1 r2 q2
def tVar (i:Nat):TE:=fun σ H Q=>∃ v,σ[i]?=some (some v)/\Q v H
def tC (v:V):TE:=fun _ H Q=>Q v H
theorem zaM {i:Nat}{x:Str}{pos:Pos}(hN:X.N[i]?=some x)(hv:Vis X.env.scope x)(hd:(x==("__debug__":Str))=false:=by decide)(hcd:(x==("__classdict__":Str))=false:=by decide):PE X (.Name x pos) (tVar i):=by
 intro pins s σ H Q I h;obtain⟨v,e,h⟩:=h;obtain⟨m,hn,hl⟩:=I.loc;obtain⟨u,r,l⟩:=hl i x v hN e hv;have fin:EP X pins σ Q u s:=⟨v,H,I,r,h⟩;rcases l with ⟨hk,hm⟩|⟨hk,c,hc,hcell⟩
 ·exact wpAny_Name (wpAny_loadName_local I.ok.kind hk hn hm fin) hd
 ·rcases hk with hk|hk
  ·exact wpAny_Name (wpAny_loadName_cell I.ok.kind hk hc hcell fin) hd
  ·exact wpAny_Name (wpAny_loadName_free I.ok.kind hk hc hcell fin hcd) hd
theorem zaq {i j pos}:PE X (.Constant (.int i) j pos) (tC (.int i)):=fun _ _ _ H _ I h=>wpAny_Constant_int ⟨.int i,H,I.tok _,⟨_,rfl⟩,h⟩
theorem zpP {b j pos}:PE X (.Constant (.bool b) j pos) (tC (.bl b)):=fun _ _ _ H _ I h=>Constant_bool ⟨.bl b,H,I,rfl,h⟩
theorem znu {j pos}:PE X (.Constant .none j pos) (tC .non):=fun _ _ _ H _ I h=>Constant_none ⟨.non,H,I,rfl,h⟩
theorem zao {x j pos}:PE X (.Constant (.str x) j pos) (tC (.str x)):=fun _ _ _ H _ I h=>Calls.Constant_str ⟨.str x,H,I.tok _,⟨_,rfl⟩,h⟩
def Gl (X:Cx)(x:Str):Prop:=X.env.kindOf x=some .globalImplicit
theorem zln {E:Value->Shared->Prop}{pins:List (Addr×Obj)}{s:Shared}{σ:St}{H:Hp}{x:Str}{u:Value}{pos:Pos}{Q:Value->Shared->Prop}(I:Inv X pins σ H s)(hg:Gl X x)(hm:X.mg x=some u)(h:Q u s)
  (hd:(x==("__debug__":Str))=false:=by decide):wpAny (model X.prog X.w) X.A (eval (.Name x pos) X.env) Q E s:=
 Calls.Name_function_global I.ok.kind hg (Calls.loadGlobal_global (by rw[I.ok.glob];exact I.mod.glob.keeps I.bk) hm h) hd
theorem zem {E:Value->Shared->Prop}{pins:List (Addr×Obj)}{s:Shared}{σ:St}{H:Hp}{x:Str}{u:Value}{pos:Pos}{Q:Value->Shared->Prop}(I:Inv X pins σ H s)(hg:Gl X x)(hm:X.mg x=none)(hv:bootBuiltins x=some u)(h:Q u s)
  (hn:x≠"__name__":=by decide)(hd:(x==("__debug__":Str))=false:=by decide):wpAny (model X.prog X.w) X.A (eval (.Name x pos) X.env) Q E s:=by
 obtain⟨mb,h1,h2⟩:=I.mod.blt;exact Calls.Name_function_global I.ok.kind hg (Calls.loadGlobal_builtin (by rw[I.ok.glob];exact I.mod.glob.keeps I.bk) hm (by rw[I.ok.blt];exact h1.keeps I.bk) ((h2 x hn).trans hv) h) hd
theorem zkY {x:Str}{v:V}{u:Value}{pos:Pos}(hg:Gl X x)(hm:X.mg x=none)(hv:bootBuiltins x=some u)(r:RelV v u)(hn:x≠"__name__":=by decide)(hd:(x==("__debug__":Str))=false:=by decide):PE X (.Name x pos) (tC v):=
 fun _ _ _ H _ I h=>zem I hg hm hv ⟨v,H,I,r,h⟩ hn hd
variable {a b:Expr}{ta tb:TE}{pos:Pos}
variable {tA tB':TT}{rest:List Expr}
def tAnd (t u:TT):TT:=fun σ H Q=>t σ H fun c H1=>if c=true then u σ H1 Q else Q false H1
def tOr (t u:TT):TT:=fun σ H Q=>t σ H fun c H1=>if c=true then Q true H1 else u σ H1 Q
def tNot (t:TT):TT:=fun σ H Q=>t σ H fun c H1=>Q (!c) H1
theorem zgP (ha:PT X a tA):PW X (.BoolOp .And [a] pos) tA:=by
 intro wh pins s σ H Q I h;refine isTrue_and (thn (ha pins s σ H Q I h) fun c s1 e=>?_)
 cases c with
 |true=>exact isTrue_and_nil e
 |false=>exact e
theorem zne (ha:PT X a tA):PW X (.BoolOp .Or [a] pos) tA:=by
 intro wh pins s σ H Q I h;refine isTrue_or (thn (ha pins s σ H Q I h) fun c s1 e=>?_)
 cases c with
 |false=>exact isTrue_or_nil e
 |true=>exact e
theorem zjW (ha:PT X a tA)(hb:PW X (.BoolOp .And (b::rest) pos) tB'):PW X (.BoolOp .And (a::b::rest) pos) (tAnd tA tB'):=by
 intro wh pins s σ H Q I h;refine isTrue_and (thn (ha pins s σ H _ I h) fun c s1 ⟨H1,I1,q1⟩=>?_)
 cases c with
 |true=>exact hb wh pins s1 σ H1 Q I1 q1
 |false=>exact⟨H1,I1,q1⟩
theorem zpJ (ha:PT X a tA)(hb:PW X (.BoolOp .Or (b::rest) pos) tB'):PW X (.BoolOp .Or (a::b::rest) pos) (tOr tA tB'):=by
 intro wh pins s σ H Q I h;refine isTrue_or (thn (ha pins s σ H _ I h) fun c s1 ⟨H1,I1,q1⟩=>?_)
 cases c with
 |true=>exact⟨H1,I1,q1⟩
 |false=>exact hb wh pins s1 σ H1 Q I1 q1
theorem znh (ha:PT X a tA):PT X (.UnaryOp .Not a pos) (tNot tA):=by
 intro pins s σ H Q I h;exact isTrue_not (ha pins s σ H (fun c H1=>Q (!c) H1) I h)
def tAndV (ta tb:TE):TE:=fun σ H Q=>ta σ H fun x H1=>∃ c,x=.bl c/\if c=true then tb σ H1 Q else Q (.bl false) H1
def tOrV (ta tb:TE):TE:=fun σ H Q=>ta σ H fun x H1=>∃ c,x=.bl c/\if c=true then Q (.bl true) H1 else tb σ H1 Q
theorem znt {op}{t:TE}(h:PE X a t):PE X (.BoolOp op [a] pos) t:=fun pins s σ H Q I hw=>BoolOp_one (h pins s σ H Q I hw)
theorem znx (ha:PE X a ta)(hb:PE X (.BoolOp .And (b::rest) pos) tb):PE X (.BoolOp .And (a::b::rest) pos) (tAndV ta tb):=by
 intro pins s σ H Q I h;refine BoolOp_and (thn (ha pins s σ H _ I h) fun v s1 ⟨x,H1,I1,r1,q1⟩=>?_);obtain⟨c,rfl,q1⟩:=q1;cases r1;refine wpAny_truthy_bool ?_
 cases c with
 |true=>exact hb pins s1 σ H1 Q I1 q1
 |false=>exact⟨.bl false,H1,I1,rfl,q1⟩
theorem zpO (ha:PE X a ta)(hb:PE X (.BoolOp .Or (b::rest) pos) tb):PE X (.BoolOp .Or (a::b::rest) pos) (tOrV ta tb):=by
 intro pins s σ H Q I h;refine BoolOp_or (thn (ha pins s σ H _ I h) fun v s1 ⟨x,H1,I1,r1,q1⟩=>?_);obtain⟨c,rfl,q1⟩:=q1;cases r1;refine wpAny_truthy_bool ?_
 cases c with
 |false=>exact hb pins s1 σ H1 Q I1 q1
 |true=>exact⟨.bl true,H1,I1,rfl,q1⟩
end
end L2
namespace L2
open PySem PySem.Spec PyProof.Rows
def SqL (K:Frag)(H:Hp)(a:Addr)(xs:List V):Prop:=
 Rd H a (.lst xs) \/
  ∃(o:Obj)(its:Array Value)(n:Nat),K.lookup a=some o/\o.cls=.type "list"/\o.dict=none/\o.data=.seq its n/\its.size<=sizeLine/\Vals xs its.toList
def SqT (K:Frag)(H:Hp)(a:Addr)(xs:List V):Prop:=
 Rd H a (.tup xs) \/
  ∃(o:Obj)(its:Array Value)(n:Nat),K.lookup a=some o/\o.cls=.type "tuple"/\o.data=.seq its n/\its.size<=sizeLine/\Vals xs its.toList
def absV:Value->Option V
 |.none=>some .non
 |.bool b=>some (.bl b)
 |.int i _=>some (.int i)
 |.str x _=>some (.str x)
 |.bytes b _=>some (.byt b)
 |.float b _=>some (.flt b)
 |.ref a=>some (.ref a)
 |.type n=>some (.ty n)
 |_=>none
theorem RelV.abs {x:V}{u:Value}(r:RelV x u):absV u=some x:=by
 cases x with
 |non=>cases r;rfl
 |bl _=>cases r;rfl
 |int _=>obtain⟨t,rfl⟩:=r;rfl
 |str _=>obtain⟨t,rfl⟩:=r;rfl
 |byt _=>obtain⟨t,rfl⟩:=r;rfl
 |flt _=>obtain⟨t,rfl⟩:=r;rfl
 |ref _=>cases r;rfl
 |ty _=>cases r;rfl
theorem RelV.inj {x y:V}{u:Value}(r:RelV x u)(q:RelV y u):x=y:=Option.some.inj (r.abs.symm.trans q.abs)
theorem Vals.inj:∀{xs ys:List V}{us:List Value},Vals xs us->Vals ys us->xs=ys
 |_,_,_,.nil,.nil=>rfl
 |_,_,_,.cons r t,.cons r' t'=>by rw[r.inj r',Vals.inj t t']
section
variable {X:Cx}{pins:List (Addr×Obj)}{σ:St}{H:Hp}{s:Shared}{a:Addr}{xs ys:List V}
theorem SqL.of {K:Frag}(h:H a=some (.lst xs)):SqL K H a xs:=.inl (.inl h)
theorem SqT.of {K:Frag}(h:H a=some (.tup xs)):SqT K H a xs:=.inl (.inl h)
theorem Inv.list (I:Inv X pins σ H s)(h:SqL X.K H a xs):∃ its:List Value,Vals xs its/\PlainL s.heap a its.toArray/\xs.length<=sizeLine:=by
 rcases h with h|⟨o,its,n,hk,hc,hd,hs,hz,r⟩
 ·obtain⟨z,its,n,r,e⟩:=h.ok I.hok;exact⟨its,r,⟨_,n,e,rfl,rfl,rfl⟩,z⟩
 ·refine⟨its.toList,r,⟨o,n,I.kIn a o hk,hc,hd,by simpa using hs⟩,?_⟩;have e:=r.length;simp only[Array.length_toList] at e;omega
theorem Inv.tuple (I:Inv X pins σ H s)(h:SqT X.K H a xs):∃ its:List Value,Vals xs its/\IsTup s.heap a its.toArray/\xs.length<=sizeLine:=by
 rcases h with h|⟨o,its,n,hk,hc,hs,hz,r⟩
 ·obtain⟨z,its,r,p⟩:=h.ok I.hok;exact⟨its,r,p,z⟩
 ·refine⟨its.toList,r,⟨o,I.kIn a o hk,hc,n,by simpa using hs⟩,?_⟩;have e:=r.length;simp only[Array.length_toList] at e;omega
theorem Inv.list_inj (I:Inv X pins σ H s)(h:SqL X.K H a xs)(h':SqL X.K H a ys):xs=ys:=by
 obtain⟨its,r,⟨o,n,e,_,_,d⟩,_⟩:=I.list h;obtain⟨its',r',⟨o',n',e',_,_,d'⟩,_⟩:=I.list h';rw[e] at e';cases e';rw[d] at d';injection d' with d1 _
 have:its=its':=by simpa using congrArg Array.toList d1
 subst this;exact r.inj r'
theorem Inv.tuple_inj (I:Inv X pins σ H s)(h:SqT X.K H a xs)(h':SqT X.K H a ys):xs=ys:=by
 obtain⟨its,r,⟨o,e,_,n,d⟩,_⟩:=I.tuple h;obtain⟨its',r',⟨o',e',_,n',d'⟩,_⟩:=I.tuple h';rw[e] at e';cases e';rw[d] at d';injection d' with d1 _
 have:its=its':=by simpa using congrArg Array.toList d1
 subst this;exact r.inj r'
end
abbrev Cx.wish (X:Cx)(E:Value->Shared->Prop):Cx:={ X with xe:=E }
abbrev Cx.nox (X:Cx):Cx:=X.wish fun _ _=>False
theorem Cx.Ok.wish {X:Cx}(ok:X.Ok)(E:Value->Shared->Prop):(X.wish E).Ok:=
 ⟨ok.mod,ok.kind,ok.glob,ok.blt,ok.above,ok.inj,ok.has,ok.cab,ok.hd,ok.frames,ok.stk,ok.exf,ok.bs,ok.bsz,ok.noex,ok.exfs,ok.funs,ok.frf⟩
theorem Cx.Ok.unwish {X:Cx}{E:Value->Shared->Prop}(ok:(X.wish E).Ok):X.Ok:=
 ⟨ok.mod,ok.kind,ok.glob,ok.blt,ok.above,ok.inj,ok.has,ok.cab,ok.hd,ok.frames,ok.stk,ok.exf,ok.bs,ok.bsz,ok.noex,ok.exfs,ok.funs,ok.frf⟩
section
variable {X:Cx}{pins:List (Addr×Obj)}{σ:St}{H:Hp}{s:Shared}{E:Value->Shared->Prop}
theorem Inv.wish (I:Inv X pins σ H s)(E:Value->Shared->Prop):Inv (X.wish E) pins σ H s:=⟨I.ok.wish E,I.os,I.bare,I.base,I.loc,I.cell,I.free,I.freeC,I.pin,I.hok,I.len⟩
theorem Inv.unwish (I:Inv (X.wish E) pins σ H s):Inv X pins σ H s:=⟨I.ok.unwish,I.os,I.bare,I.base,I.loc,I.cell,I.free,I.freeC,I.pin,I.hok,I.len⟩
theorem SP.unwish {D:Ends}{f:Flow}{s':Shared}(h:SP (X.wish E) pins D f s'):SP X pins D f s':=by
 cases f with
 |next=>obtain⟨σ',H',I,q⟩:=h;exact⟨σ',H',I.unwish,q⟩
 |brk=>obtain⟨σ',H',I,q⟩:=h;exact⟨σ',H',I.unwish,q⟩
 |cont=>obtain⟨σ',H',I,q⟩:=h;exact⟨σ',H',I.unwish,q⟩
 |ret u=>obtain⟨v,σ',H',I,r,q⟩:=h;exact⟨v,σ',H',I.unwish,r,q⟩
theorem PSs.nox {st:List Stmt}{t:TS}(h:PSs X.nox st t):PSs X st t:=fun pins s σ H D I hw=>
 wpAny_mono (h pins s σ H D (I.wish _) hw) (fun _ _ q=>q.unwish) fun _ _ z=>False.elim z
end
section
variable {X:Cx}{st:Stmt}{rest:List Stmt}{t u:TS}{e:Expr}{te:TE}{pos:Pos}
def tNext:TS:=fun D σ H=>D.nx σ H
def tSeq (t u:TS):TS:=fun D σ H=>t { D with nx:=u D } σ H
theorem pss_nil:PSs X [] tNext:=fun _ _ σ H _ I h=>wpAny_execs_nil ⟨σ,H,I,h⟩
theorem zan (h1:PS X st t)(h2:PSs X rest u):PSs X (st::rest) (tSeq t u):=by
 intro pins s σ H D I h;refine wpAny_execs_cons (thn (h1 pins s σ H { D with nx:=u D } I h) fun f s1 q=>?_)
 cases f with
 |next=>
  obtain⟨σ',H',I',q⟩:=q;exact h2 pins s1 σ' H' D I' q
 |ret v=>exact q
 |brk=>exact q
 |cont=>exact q
theorem zaU (h1:PS X st t):PSs X [st] t:=by
 intro pins s σ H D I h;refine wpAny_execs_cons (thn (h1 pins s σ H D I h) fun f s1 q=>?_)
 cases f with
 |next=>exact wpAny_execs_nil q
 |ret v=>exact q
 |brk=>exact q
 |cont=>exact q
theorem Inv.quiet {pins:List (Addr×Obj)}{σ:St}{H:Hp}{s:Shared}(I:Inv X pins σ H s):interactive X.env=false:=by simp [interactive,I.ok.kind]
def tDrop (te:TE):TS:=fun D σ H=>te σ H fun _ H1=>D.nx σ H1
theorem zgS (he:PE X e te)(hs:swapsWith e none pos.line X.env=pure false:=by rfl):PS X (.Expr e pos) (tDrop te):=by
 intro pins s σ H D I h;exact wpAny_Expr_any (thn (he pins s σ H _ I h) fun v s1 ⟨x,H1,I1,r1,q1⟩=>⟨σ,H1,I1,q1⟩) I.quiet hs
def tRet (te:TE):TS:=fun D σ H=>te σ H D.rt
theorem zcr (he:PE X e te):PS X (.Return (some e) pos) (tRet te):=by
 intro pins s σ H D I h;exact wpAny_Return_some (thn (he pins s σ H _ I h) fun v s1 ⟨x,H1,I1,r1,q1⟩=>⟨x,σ,H1,I1,r1,q1⟩)
def tIfS (c:TT)(t u:TS):TS:=fun D σ H=>c σ H fun b H1=>if b=true then t D σ H1 else u D σ H1
theorem ziQ {c:Expr}{a b:List Stmt}{tc:TT}(hc:PT X c tc)(ha:PSs X a t)(hb:PSs X b u):PS X (.If c a b pos) (tIfS tc t u):=by
 intro pins s σ H D I h;refine wpAny_If (thn (hc pins s σ H _ I h) fun d s1 ⟨H1,I1,q1⟩=>?_)
 cases d with
 |true=>exact ha pins s1 σ H1 D I1 q1
 |false=>exact hb pins s1 σ H1 D I1 q1
end
abbrev TG:=V->St->Hp->(St->Hp->Prop)->Prop
abbrev TGs:=List V->St->Hp->(St->Hp->Prop)->Prop
def PG (X:Cx)(target:Expr)(t:TG):Prop:=
 ∀(pins:List (Addr×Obj))(s:Shared)(σ:St)(H:Hp)(v:V)(u:Value)(Q:St->Hp->Prop),Inv X pins σ H s->RelV v u->t v σ H Q ->
  wpAny (model X.prog X.w) X.A (assign target X.env u) (fun _ s'=>∃ σ' H',Inv X pins σ' H' s'/\Q σ' H') X.xe s
def PGs (X:Cx)(ts:List Expr)(t:TGs):Prop:=
 ∀(pins:List (Addr×Obj))(s:Shared)(σ:St)(H:Hp)(vs:List V)(us:List Value)(Q:St->Hp->Prop),Inv X pins σ H s->Vals vs us->t vs σ H Q ->
  wpAny (model X.prog X.w) X.A (assignInOrder ((assignEach ts X.env).map (·.2)) us) (fun _ s'=>∃ σ' H',Inv X pins σ' H' s'/\Q σ' H') X.xe s
section
variable {X:Cx}{pos:Pos}
def gName (i:Nat):TG:=fun v σ H Q=>Q (σ.set i (some v)) H
theorem zhc {i:Nat}{x:Str}(hN:X.N.Nodup)(hi:X.N[i]?=some x)(hx:Loc X.env.scope x)(hf:X.fn x=true\/X.env.scope.names.lookup x=some .local:=by first|exact .inl rfl|exact .inr rfl|assumption):PG X (.Name x pos) (gName i):=by
 intro pins s σ H v u Q I r h;exact wpAny_assign_Name (zft I hN hi hx r (fun s' I'=>⟨_,H,I',h⟩) hf)
def gNil:TGs:=fun vs σ H Q=>vs=[]/\Q σ H
def gCons (t:TG)(u:TGs):TGs:=fun vs σ H Q=>∃ v r,vs=v::r/\t v σ H fun σ' H'=>u r σ' H' Q
theorem pgs_nil:PGs X [] gNil:=by
 intro pins s σ H vs us Q I r h;obtain⟨e,h⟩:=h;subst e;cases r;exact assignInOrder_nil ⟨σ,H,I,h⟩
theorem ziT {e:Expr}{es:List Expr}{t:TG}{u:TGs}(h1:PG X e t)(h2:PGs X es u)
  (hs:(assignEach (e::es) X.env).map (·.2)=assign e X.env::(assignEach es X.env).map (·.2):=by rfl):PGs X (e::es) (gCons t u):=by
 intro pins s σ H vs us Q I r h;obtain⟨v,vr,e1,h⟩:=h;subst e1
 cases r with
 |cons r rr=>
  rw[hs];refine assignInOrder_cons (thn (h1 pins s σ H _ _ _ I r h) fun _ s1 ⟨σ1,H1,I1,q1⟩=>?_);exact h2 pins s1 σ1 H1 _ _ Q I1 rr q1
def gTup (K:Frag)(n:Nat)(t:TGs):TG:=fun v σ H Q=>∃ a xs,v=.ref a/\SqT K H a xs/\xs.length=n/\t xs σ H Q
theorem znm {es:List Expr}{k:Nat}{t:TGs}{n:Nat}(hc:X.calm=true)(h:PGs X es t)
  (hn:(assignEach es X.env).length=n:=by rfl)(hst:(assignEach es X.env).findIdx? (·.1)=none:=by rfl):PG X (.Tuple es k pos) (gTup X.K n t):=by
 intro pins s σ H v u Q I r hw;obtain⟨a,xs,e1,hq,hl,hw⟩:=hw;subst e1;cases r;obtain⟨its,rv,ht,hz⟩:=I.tuple hq;refine assign_Tuple_tuple (I.ok.hd hc) ht (by simp [hn,<- hl,rv.length]) hst fun h' hx=>?_;have I1:Inv X pins σ H { s with heap:=h' }:=I.kept (t':=s.toks) fun b o e=>hx b o (Nat.ne_of_lt (Heap.lt_size e)) e;exact h pins _ σ H xs _ Q I1 (by simpa using rv) hw
def tAsg (te:TE)(g:TG):TS:=fun D σ H=>te σ H fun x H1=>g x σ H1 D.nx
theorem zni {tg e:Expr}{te:TE}{g:TG}(he:PE X e te)(hg:PG X tg g)(hs:swapsWithSole [tg] e pos.line X.env=pure false:=by rfl)(hw:swappedStores [tg] e X.env=pure none:=by rfl)
  (h1:(assignEach [tg] X.env).map (·.2)=[assign tg X.env]:=by rfl):PS X (.Assign [tg] e pos) (tAsg te g):=by
 intro pins s σ H D I h;refine wpAny_Assign_stores (thn (he pins s σ H _ I h) fun v s1 ⟨x,H1,I1,r1,q1⟩=>?_) hs hw;rw[h1];exact thn (hg pins s1 σ H1 x v _ I1 r1 q1) fun _ s2 q=>q
theorem zba {i:Nat}{x:Str}{e:Expr}{te:TE}{pos':Pos}(hN:X.N.Nodup)(hi:X.N[i]?=some x)(hx:Loc X.env.scope x)(he:PE X e te)(hs:swapsWith e (some (.Name x pos')) pos.line X.env=pure false:=by rfl)(hf:X.fn x=true\/X.env.scope.names.lookup x=some .local:=by first|exact .inl rfl|exact .inr rfl|assumption) :
  PS X (.Assign [.Name x pos'] e pos) (tAsg te (gName i)):=by
 intro pins s σ H D I h;refine wpAny_Assign_Name (thn (he pins s σ H _ I h) fun v s1 ⟨y,H1,I1,r1,q1⟩=>?_) hs;exact zft I1 hN hi hx r1 (fun s2 I2=>⟨_,H1,I2,q1⟩) hf
end
section
variable {X:Cx}{pos:Pos}
def tWhile (c:TT)(tb:TS):TS:=fun D σ H=>∃ W:Nat->St->Hp->Prop,(∃ m,W m σ H)/\∀ m σ H,W m σ H ->
 c σ H fun b H1=>if b=true then ∃ N:St->Hp->Prop,(∀ σ' H',N σ' H'->∃ m',m'<m/\W m' σ' H')/\tb { D with nx:=N,ct:=N,bk:=D.nx } σ H1 else D.nx σ H1
theorem zfw {c:Expr}{body:List Stmt}{tc:TT}{tb:TS}(hp:PassesOwn (model X.prog X.w) X.A X.env X.xe)(hc:PT X c tc)(hb:PSs X body tb):PS X (.While c body [] pos) (tWhile tc tb):=by
 intro pins s σ H D I h;obtain⟨W,⟨m0,w0⟩,turn⟩:=h;refine wpAny_While (codeAny_whileLoop (fun n s'=>∃ σ' H',Inv X pins σ' H' s'/\W n σ' H') ?_ m0 ⟨σ,H,I,w0⟩);rintro n s1 ⟨σ1,H1,I1,w1⟩;refine wpAny_passesOwn hp (thn (hc pins s1 σ1 H1 _ I1 (turn n σ1 H1 w1)) fun b s2 ⟨H2,I2,q2⟩=>?_)
 cases b with
 |true=>
  obtain⟨N,hN,q2⟩:=q2;rw[if_pos rfl];refine wpAny_passesOwn hp (thn (hb pins s2 σ1 H2 _ I2 q2) fun f s3 q3=>?_)
  cases f with
  |next=>
   obtain⟨σ3,H3,I3,n3⟩:=q3;obtain⟨m',hm,w3⟩:=hN σ3 H3 n3;exact⟨m',hm,σ3,H3,I3,w3⟩
  |cont=>
   obtain⟨σ3,H3,I3,n3⟩:=q3;obtain⟨m',hm,w3⟩:=hN σ3 H3 n3;exact⟨m',hm,σ3,H3,I3,w3⟩
  |brk=>exact q3
  |ret v=>exact q3
 |false=>
  rw[if_neg Bool.false_ne_true];exact wpAny_execs_nil ⟨σ1,H2,I2,q2⟩
end
structure It where
 go:Nat->Hp->Prop
 yld:Nat->Hp->V->Hp->Prop
 stop:Nat->Hp->Prop
def FpOk (X:Cx)(pins:List (Addr×Obj))(H:Hp)(b:Addr):Prop:=
 H b=none/\b≠X.env.locals/\b∉X.fs/\(b∈X.ex\/X.s₀.heap.objs.size<=b)/\(∀ x c,X.env.cells.lookup x=some c->c≠b)/\∀ p∈X.pn++pins,p.1≠b
theorem Inv.fpOk {X:Cx}{pins:List (Addr×Obj)}{σ:St}{H H':Hp}{s:Shared}{b:Addr}(I:Inv X pins σ H s)(hb:s.heap.objs.size<=b)(hn:H' b=none):FpOk X pins H' b:=by
 refine⟨hn,Nat.ne_of_gt (Nat.lt_of_lt_of_le I.lt hb),I.nofs hb,.inr (Nat.le_trans I.sz hb),fun x c e z=>?_,fun p hp z=>?_⟩
 ·obtain⟨v,q⟩:=I.cell x c e;exact absurd (Nat.lt_of_lt_of_le q.lt (by rw[z];exact hb)) (Nat.lt_irrefl _)
 ·exact absurd (Nat.lt_of_lt_of_le (Heap.lt_size (I.pin p hp).1) (by rw[z];exact hb)) (Nat.lt_irrefl _)
structure Turn (P:Program)(w:World)(K:Frag)(tg:Expr)(J:It)(fp:List Addr)(it:Addr)(tn:Nat->Heap->Prop):Prop where
 mem:it∈fp
 obj:∀ i h,tn i h->∀ b∈fp,∃ o,h.get? b=some o/\∀ v,o.data≠.cell v
 keep:∀ i h h',tn i h->(∀ b∈fp,∀ o,h.get? b=some o->h'.get? b=some o)->tn i h'
 item:∀(X:Cx),X.prog=P->X.w=w->X.K=K->X.calm=true->∀(i:Nat)(pins:List (Addr×Obj))(s:Shared)(σ:St)(H:Hp)(E:Value->Shared->Prop),Inv X pins σ H s->(∀ b∈fp,FpOk X pins H b)->tn i s.heap->J.go i H ->
  wpAny (model P w) X.A (pyNext (.ref it)) (fun r s1=>∃ u,r=some u /\
   wpAny (model P w) X.A (letOwnedTupleGo tg (.ref it) u) (fun _ s2=>∃ x H',Inv X pins σ H' s2/\RelV x u/\J.yld i H x H'/\tn (i+1) s2.heap/\∀ b∈fp,H' b=none) E s1) E s
 done:∀(X:Cx),X.prog=P->X.w=w->X.K=K->X.calm=true->∀(i:Nat)(pins:List (Addr×Obj))(s:Shared)(σ:St)(H:Hp)(E:Value->Shared->Prop),Inv X pins σ H s->(∀ b∈fp,FpOk X pins H b)->tn i s.heap->J.stop i H ->
  wpAny (model P w) X.A (pyNext (.ref it)) (fun r s1=>r=none/\Inv X pins σ H s1) E s
 self:∀(A:Around)(i:Nat)(s:Shared)(Q:Value->Shared->Prop)(E:Value->Shared->Prop),tn i s.heap->Q (.ref it) s->wpAny (model P w) A (pyIter (.ref it)) Q E s
abbrev TI:=St->Hp->(It->Hp->Prop)->Prop
def PIE (X:Cx)(pins:List (Addr×Obj))(σ:St)(tg:Expr)(R:It->Hp->Prop)(itv:Value)(s2:Shared):Prop:=
 ∃(it:Addr)(fp:List Addr)(tn:Nat->Heap->Prop)(J:It)(H':Hp),itv=.ref it/\Inv X pins σ H' s2/\Turn X.prog X.w X.K tg J fp it tn/\tn 0 s2.heap/\(∀ b∈fp,FpOk X pins H' b)/\R J H'
def PI (X:Cx)(tg iter:Expr)(wi:TI):Prop:=
 ∀(pins:List (Addr×Obj))(s:Shared)(σ:St)(H:Hp)(R:It->Hp->Prop),Inv X pins σ H s->wi σ H R ->
  wpAny (model X.prog X.w) X.A (eval iter X.env) (fun v s1=>wpAny (model X.prog X.w) X.A (pyIter v) (PIE X pins σ tg R) X.xe s1) X.xe s
theorem zgb {M:Model}{A:Around}{E:Value->Shared->Prop}{s:Shared}{tg:Expr}{it:Addr}{u:Value}{o:Obj}{n:String}{vs:Array Value}{Q:Unit->Shared->Prop}(ho:s.heap.get? it=some o)(hc:o.cls=.type n)(hd:o.data=.fields vs)
  (hn:["enumerate","zip","dict_itemiterator","dict_reverseitemiterator","odict_iterator","itertools.zip_longest","itertools.pairwise"].contains n=false)(hQ:Q () s):wpAny M A (letOwnedTupleGo tg (.ref it) u) Q E s:=by
 unfold letOwnedTupleGo
 cases tg<;>first
  |exact wpAny_pure hQ
  | (cases u<;>first
    |exact wpAny_pure hQ
    | (refine wpAny_bind (wpAny_load ho ?_)
       rw[hc,hd];show wpAny M A (if (["enumerate","zip","dict_itemiterator","dict_reverseitemiterator","odict_iterator","itertools.zip_longest","itertools.pairwise"].contains n&&vs[0]?==some (rawInt _))=true then _ else _) Q E s;rw[if_neg (by intro h;rw[hn,Bool.false_and] at h;cases h)]
       exact wpAny_pure hQ))
def Itl (K:Frag)(a:Addr):It:=
 ⟨fun i H=>∃ xs x,SqL K H a xs/\xs[i]?=some x,fun i H x H'=>H'=H/\∀ xs,SqL K H a xs->xs[i]?=some x,fun i H=>∃ xs,SqL K H a xs/\xs.length<=i⟩
def Itt (K:Frag)(a:Addr):It:=
 ⟨fun i H=>∃ xs x,SqT K H a xs/\xs[i]?=some x,fun i H x H'=>H'=H/\∀ xs,SqT K H a xs->xs[i]?=some x,fun i H=>∃ xs,SqT K H a xs/\xs.length<=i⟩
def Itr (lo:Int)(n:Nat):It:=⟨fun i _=>i<n,fun i H x H'=>H'=H/\x=.int (lo+i),fun i _=>n<=i⟩
theorem zgr {P:Program}{w:World}{K:Frag}{tg:Expr}(a it:Addr):Turn P w K tg (Itl K a) [it] it (fun i h=>h.IsListIter it a i) where
 mem:=by simp
 obj:=fun i h st b hb=>by
  have e:b=it:=by simpa using hb
  subst e;obtain⟨o,e,c,d⟩:=st;exact⟨o,e,fun v z=>by rw[d] at z;cases z⟩
 keep:=fun i h h' st k=>st.at fun o e=>k it (by simp) o e
 item:=by
  intro X hP hw hK hc i pins s σ H E I hf st hg;subst hP hw hK;obtain⟨xs,x,hq,hx⟩:=hg;obtain⟨its,rv,p,hz⟩:=I.list hq;obtain⟨u,hu,ru⟩:=rv.get hx;obtain⟨f0,f1,f2,f3,f4,f5⟩:=hf it (by simp);refine wpAny_pyNext_list_item st p.isList (x:=u) (by simpa using hu) fun h' st' sb=>?_;have I1:Inv X pins σ H { s with heap:=h' }:=I.turned (t':=s.toks) (fun b o hb e=>(sb.2 b hb).trans e) f0 f1 f3 f4 f5;obtain⟨o,e,c,d⟩:=id st';exact⟨u,rfl,zgb (s:={ s with heap:=h' }) e c d (by decide) ⟨x,H,I1,ru,⟨rfl,fun ys hy=>by rw[I.list_inj hy hq];exact hx⟩,st',fun b hb=>(hf b hb).1⟩⟩
 done:=by
  intro X hP hw hK hc i pins s σ H E I hf st hg;subst hP hw hK;obtain⟨xs,hq,hx⟩:=hg;obtain⟨its,rv,p,hz⟩:=I.list hq;obtain⟨f0,f1,f2,f3,f4,f5⟩:=hf it (by simp);have hl:=rv.length;exact wpAny_pyNext_list_end (I.ok.hd hc) st p.isList (by simp;omega) fun h' eb=>⟨rfl,I.turned (t':=s.toks) (fun b o hb e=>eb b o hb e) f0 f1 f3 f4 f5⟩
 self:=fun _ _ _ _ _ st h=>wpAny_pyIter_listiter st h
theorem zfL {P:Program}{w:World}{K:Frag}{tg:Expr}(a it:Addr):Turn P w K tg (Itt K a) [it] it (fun i h=>h.IsTupleIter it a i) where
 mem:=by simp
 obj:=fun i h st b hb=>by
  have e:b=it:=by simpa using hb
  subst e;obtain⟨o,e,c,d⟩:=st;exact⟨o,e,fun v z=>by rw[d] at z;cases z⟩
 keep:=fun i h h' st k=>st.at fun o e=>k it (by simp) o e
 item:=by
  intro X hP hw hK hc i pins s σ H E I hf st hg;subst hP hw hK;obtain⟨xs,x,hq,hx⟩:=hg;obtain⟨its,rv,p,hz⟩:=I.tuple hq;obtain⟨u,hu,ru⟩:=rv.get hx;obtain⟨f0,f1,f2,f3,f4,f5⟩:=hf it (by simp);refine wpAny_pyNext_tuple_item st (show s.heap.IsTuple a its.toArray from p) (x:=u) (by simpa using hu) fun h' st' sb=>?_;have I1:Inv X pins σ H { s with heap:=h' }:=I.turned (t':=s.toks) (fun b o hb e=>(sb.2 b hb).trans e) f0 f1 f3 f4 f5;obtain⟨o,e,c,d⟩:=id st';exact⟨u,rfl,zgb (s:={ s with heap:=h' }) e c d (by decide) ⟨x,H,I1,ru,⟨rfl,fun ys hy=>by rw[I.tuple_inj hy hq];exact hx⟩,st',fun b hb=>(hf b hb).1⟩⟩
 done:=by
  intro X hP hw hK hc i pins s σ H E I hf st hg;subst hP hw hK;obtain⟨xs,hq,hx⟩:=hg;obtain⟨its,rv,p,hz⟩:=I.tuple hq;obtain⟨f0,f1,f2,f3,f4,f5⟩:=hf it (by simp);have hl:=rv.length;exact wpAny_pyNext_tuple_end (I.ok.hd hc) st (show s.heap.IsTuple a its.toArray from p) (by simp;omega) fun h' eb=>⟨rfl,I.turned (t':=s.toks) (fun b o hb e=>eb b o hb e) f0 f1 f3 f4 f5⟩
 self:=fun _ _ _ _ _ st h=>wpAny_pyIter_tupleiter st h
theorem zfM {P:Program}{w:World}{K:Frag}{tg:Expr}(it:Addr)(lo:Int)(n:Nat):Turn P w K tg (Itr lo n) [it] it (fun i h=>IsRangeIter h it (lo+(i:Nat)*1) ((n:Int)-(i:Nat)) 1) where
 mem:=by simp
 obj:=fun i h st b hb=>by
  have e:b=it:=by simpa using hb
  subst e
  exact⟨_,st,fun v z=>by
   have z':Data.fields _=Data.cell v:=z
   cases z'⟩
 keep:=fun i h h' st k=>k it (by simp) _ st
 item:=by
  intro X hP hw hK hc i pins s σ H E I hf st hg;subst hP hw hK;obtain⟨f0,f1,f2,f3,f4,f5⟩:=hf it (by simp);have W:=Walks.range (prog:=X.prog) (w:=X.w) (I.ok.hd hc) it lo 1 n;refine W.item i s _ _ hg st fun v h' tk hv st' kk=>?_;obtain⟨t,rfl⟩:=hv;have I1:Inv X pins σ H { s with heap:=h',toks:=tk }:=I.turned (fun b o hb e=>kk b o (by simpa using hb) e) f0 f1 f3 f4 f5;refine⟨_,rfl,zgb (s:={ s with heap:=h',toks:=tk }) (n:="range_iterator") st' rfl rfl (by decide) ⟨.int (lo+i),H,I1,⟨t,?_⟩,⟨rfl,rfl⟩,st',fun b hb=>(hf b hb).1⟩⟩;rw[Int.mul_one]
 done:=by
  intro X hP hw hK hc i pins s σ H E I hf st hg;subst hP hw hK;obtain⟨f0,f1,f2,f3,f4,f5⟩:=hf it (by simp);exact wpAny_pyNext_range_end (I.ok.hd hc) st (by have:n<=i:=hg;omega) fun h' eb=>⟨rfl,I.turned (t':=s.toks) (fun b o hb e=>eb b o hb e) f0 f1 f3 f4 f5⟩
 self:=fun _ _ _ _ _ st h=>wpAny_pyIter_rangeiter st h
end L2
namespace L2
open PySem PySem.Spec PyProof.Rows
section
variable {X:Cx}{tg:Expr}
theorem range_it {pins:List (Addr×Obj)}{σ:St}{H:Hp}{s:Shared}{R:It->Hp->Prop}{E:Value->Shared->Prop}{lo hi:Int}{t u v:Tok}{tk:Nat}(I:Inv X pins σ H s)(h1:-(2 ^ 62)<=lo)(h2:lo<2 ^ 62)(h3:-(2 ^ 62)<=hi)(h4:hi<2 ^ 62)
  (q:R (Itr lo (hi-lo).toNat) H):wpAny (model X.prog X.w) X.A (pyIter (.ref s.heap.objs.size)) (PIE X pins σ tg R) E { s with heap:=s.heap.push { cls:=.type "range",data:=.fields #[.int lo t,.int hi u,.int 1 v] },toks:=tk }:=by
 refine wpAny_pyIter_range (IsRange.new ..) (small_one h1 h2 h3 h4) ?_;have I1:Inv X pins σ H { s with heap:=s.heap.push { cls:=.type "range",data:=.fields #[.int lo t,.int hi u,.int 1 v] },toks:=tk }:=I.kept fun b o e=>Heap.get?_push_of_some _ e
 refine⟨(s.heap.push { cls:=.type "range",data:=.fields #[.int lo t,.int hi u,.int 1 v] }).objs.size,[(s.heap.push { cls:=.type "range",data:=.fields #[.int lo t,.int hi u,.int 1 v] }).objs.size],_,_,H,rfl,
  I1.kept (t':=tk) fun b o e=>Heap.get?_push_of_some _ e,zfM _ lo (hi-lo).toNat,?_,fun b hb=>?_,q⟩
 ·have e1:lo+((0:Nat):Int)*1=lo:=by simp
  have e2:(((hi-lo).toNat:Nat):Int)-((0:Nat):Int)=Builtin.Range.rangeSize lo hi 1:=by rw[rangeSize_one];split<;>omega
  show IsRangeIter _ _ (lo+((0:Nat):Int)*1) ((((hi-lo).toNat:Nat):Int)-((0:Nat):Int)) 1;rw[e1,e2];exact Heap.get?_push_size _ rfl
 ·have e:b=(s.heap.push { cls:=.type "range",data:=.fields #[.int lo t,.int hi u,.int 1 v] }).objs.size:=by simpa using hb
  subst e;exact I1.fpOk (Nat.le_refl _) (I1.hok.fresh (Nat.le_refl _))
def zqb (ta:TA):TI:=fun σ H R=>ta σ H fun vs H1=>∃ j:Int,vs=[.int j] /\ -(2 ^ 62)<=j/\j<2 ^ 62/\R (Itr 0 j.toNat) H1
theorem zee {a:Expr}{ta:TA}{p pos:Pos}(hg:Gl X "range")(hm:X.mg "range"=none)(ha:PA X [a] ta)(hs:starEach [a] X.env=[(false,eval a X.env)]:=by rfl):PI X tg (.Call (.Name "range" p) [a] [] pos) (zqb ta):=by
 intro pins s σ H R I h;refine Call_ (zem I hg hm boot_range (PyProof.Rows.callWith_type1 (thn (ha pos pins s σ H _ I h) fun us s1 ⟨vs,H1,I1,r1,q1⟩=>?_) hs rfl));obtain⟨j,e,q1,q2,q⟩:=q1;subst e
 cases r1 with
 |cons r rr=>
  cases rr;obtain⟨t,rfl⟩:=r;exact call_range_1 (range_it I1 (by omega) (by omega) q1 q2 (by simpa using q))
def tFor (wi:TI)(g:TG)(tb:TS):TS:=fun D σ H=>wi σ H fun J H1=>∃ W:Nat->Nat->St->Hp->Prop,(∃ m,W 0 m σ H1)/\∀ i m σ H,W i m σ H ->
 (J.stop i H/\D.nx σ H)\/(J.go i H/\∃ N:St->Hp->Prop,(∀ σ' H',N σ' H'->∃ m',m'<m/\W (i+1) m' σ' H')/\∀ x H',J.yld i H x H'->g x σ H' fun σ2 H2=>tb { D with nx:=N,ct:=N,bk:=D.nx } σ2 H2)
def pinsAt (fp:List Addr)(h:Heap):List (Addr×Obj):=fp.filterMap fun b=>(h.get? b).map fun o=>(b,o)
theorem zbx {fp:List Addr}{h:Heap}{b:Addr}{o:Obj}(hb:b∈fp)(e:h.get? b=some o):(b,o)∈pinsAt fp h:=List.mem_filterMap.mpr ⟨b,hb,by rw[e];rfl⟩
theorem zhk {fp:List Addr}{h:Heap}{p:Addr×Obj}(hp:p∈pinsAt fp h):p.1∈fp/\h.get? p.1=some p.2:=by
 obtain⟨b,hb,e⟩:=List.mem_filterMap.mp hp
 cases q:h.get? b with
 |none=>rw[q] at e;cases e
 |some o=>
  rw[q] at e;have e':(b,o)=p:=Option.some.inj e;subst e';exact⟨hb,q⟩
theorem Inv.pinned {pins:List (Addr×Obj)}{σ:St}{H:Hp}{s:Shared}{fp:List Addr}(I:Inv X pins σ H s)(hf:∀ b∈fp,FpOk X pins H b)(ho:∀ b∈fp,∃ o,s.heap.get? b=some o/\∀ v,o.data≠.cell v):Inv X (pins++pinsAt fp s.heap) σ H s:=
 I.pins_of fun p hp=>(List.mem_append.mp hp).elim (fun z=>I.pin p (List.mem_append_right _ z)) fun z=>by
  obtain⟨hb,e⟩:=zhk z;obtain⟨f0,f1,f2,_⟩:=hf p.1 hb;obtain⟨o,e',d⟩:=ho p.1 hb;rw[e] at e';cases e';exact⟨e,f0,f1,f2,d⟩
theorem Inv.unpinned {pins pl:List (Addr×Obj)}{σ:St}{H:Hp}{s:Shared}(I:Inv X (pins++pl) σ H s):Inv X pins σ H s:=I.pins_of fun p hp=>I.pin p (List.mem_append_right _ (List.mem_append_left _ hp))
theorem zjY {iter:Expr}{body:List Stmt}{wi:TI}{g:TG}{tb:TS}{pos:Pos}(hp:PassesOwn (model X.prog X.w) X.A X.env X.xe)(hc:X.calm=true)(hi:PI X tg iter wi)(hg:PG X tg g)(hb:PSs X body tb)
  (hs:∀ x,foldedSetIterable iter X.env x=pure x:=by intro _;rfl):PS X (.For tg iter body [] pos) (tFor wi g tb):=by
 intro pins s σ H D I h;refine wpAny_For (thn (hi pins s σ H _ I h) fun v s1 h1=>thn h1 fun itv s2 h2=>?_) hs;obtain⟨it,fp,tn,J,H2,e,I2,T,st2,f2,W,⟨m0,w0⟩,turn⟩:=h2;subst e
 -- what stays true of the iterator's objects through the loop
 have stat:∀{H':Hp},(∀ b∈fp,H' b=none)->∀ b∈fp,FpOk X pins H' b:=fun hn b hb=>⟨hn b hb,(f2 b hb).2⟩;refine codeAny_forLoop_any (fun n s'=>∃ i σ' H',Inv X pins σ' H' s'/\tn i s'.heap/\(∀ b∈fp,H' b=none)/\W i n σ' H') ?_ m0 ⟨0,σ,H2,I2,st2,fun b hb=>(f2 b hb).1,w0⟩;rintro n s3 ⟨i,σ3,H3,I3,st3,fr3,w3⟩;rcases turn i n σ3 H3 w3 with ⟨stop,qn⟩|⟨go,N,hN,step⟩
 ·refine wpAny_passesOwn hp (thn (T.done X rfl rfl rfl hc i pins s3 σ3 H3 X.xe I3 (stat fr3) st3 stop) fun r s4 ⟨hr,I4⟩=>?_);subst hr;exact wpAny_execs_nil ⟨σ3,H3,I4,qn⟩
 ·refine wpAny_passesOwn hp (thn (T.item X rfl rfl rfl hc i pins s3 σ3 H3 X.xe I3 (stat fr3) st3 go) fun r s4 ⟨u,hr,h4⟩=>?_);subst hr;refine wpAny_passesOwn hp (thn h4 fun _ s5 ⟨x,H5,I5,r5,y5,st5,fr5⟩=>?_);have I5':=I5.pinned (stat fr5) (T.obj _ _ st5);refine wpAny_passesOwn hp (thn (hg _ s5 σ3 H5 x u _ I5' r5 (step x H5 y5)) fun _ s6 ⟨σ6,H6,I6,q6⟩=>?_);refine wpAny_passesOwn hp (thn (hb _ s6 σ6 H6 _ I6 q6) fun f s7 q7=>?_)
  have again:∀{σ7:St}{H7:Hp},Inv X (pins++pinsAt fp s5.heap) σ7 H7 s7->N σ7 H7->∃ m,m<n/\∃ i σ' H',Inv X pins σ' H' s7/\tn i s7.heap/\(∀ b∈fp,H' b=none)/\W i m σ' H':=fun {σ7 H7} I7 n7=>by
   obtain⟨m',hm,w7⟩:=hN σ7 H7 n7;refine⟨m',hm,i+1,σ7,H7,I7.unpinned,T.keep _ _ _ st5 fun b hb o e=>(I7.pin (b,o) (List.mem_append_right _ (List.mem_append_right _ (zbx hb e)))).1,fun b hb=>?_,w7⟩;obtain⟨o,e,d⟩:=T.obj _ _ st5 b hb;exact(I7.pin (b,o) (List.mem_append_right _ (List.mem_append_right _ (zbx hb e)))).2.1
  cases f with
  |next=>obtain⟨σ7,H7,I7,n7⟩:=q7;exact again I7 n7
  |cont=>obtain⟨σ7,H7,I7,n7⟩:=q7;exact again I7 n7
  |brk=>obtain⟨σ7,H7,I7,q7⟩:=q7;exact⟨σ7,H7,I7.unpinned,q7⟩
  |ret v=>obtain⟨x7,σ7,H7,I7,r7,q7⟩:=q7;exact⟨x7,σ7,H7,I7.unpinned,r7,q7⟩
end
theorem zev {lo:Int}{n:Nat}{g:TG}{tb:TS}{D:Ends}{σ:St}{H:Hp}(Pv:Nat->St->Hp->Prop)(h0:Pv 0 σ H)
  (hs:∀ i σ H,i<n->Pv i σ H->g (.int (lo+i)) σ H fun σ2 H2=>tb { D with nx:=Pv (i+1),ct:=Pv (i+1),bk:=D.nx } σ2 H2)(hd:∀ σ H,Pv n σ H->D.nx σ H) :
  ∃ W:Nat->Nat->St->Hp->Prop,(∃ m,W 0 m σ H)/\∀ i m σ H,W i m σ H ->
   ((Itr lo n).stop i H/\D.nx σ H)\/((Itr lo n).go i H/\∃ N:St->Hp->Prop,(∀ σ' H',N σ' H'->∃ m',m'<m/\W (i+1) m' σ' H')/\∀ x H',(Itr lo n).yld i H x H'->g x σ H' fun σ2 H2=>tb { D with nx:=N,ct:=N,bk:=D.nx } σ2 H2):=by
 refine⟨fun i m σ H=>m=n-i/\i<=n/\Pv i σ H,⟨n,by simp,Nat.zero_le _,h0⟩,?_⟩;rintro i m σ H ⟨rfl,hi,p⟩;by_cases hlt:i<n
 ·refine .inr ⟨hlt,Pv (i+1),fun σ' H' p'=>⟨n-(i+1),by omega,rfl,hlt,p'⟩,fun x H' y=>?_⟩;obtain⟨e,y⟩:=y;subst e y;exact hs i σ _ hlt p
 ·have e:i=n:=by omega
  subst e;exact .inl ⟨Nat.le_refl _,hd σ H p⟩
end L2
namespace L2
open PySem PySem.Spec PyProof.Rows
abbrev R2:=V->V->Hp->VK->Prop
def OpR (X:Cx)(f:Value->Value->Sem Value)(r:R2):Prop:=
 ∀(pins:List (Addr×Obj))(s:Shared)(σ:St)(H:Hp)(x y:V)(v u:Value)(Q:VK),Inv X pins σ H s->RelV x v->RelV y u->r x y H Q ->
  wpAny (model X.prog X.w) X.A (f v u) (EP X pins σ Q) X.xe s
def UnR (X:Cx)(f:Value->Sem Value)(r:V->Hp->VK->Prop):Prop:=
 ∀(pins:List (Addr×Obj))(s:Shared)(σ:St)(H:Hp)(x:V)(v:Value)(Q:VK),Inv X pins σ H s->RelV x v->r x H Q ->
  wpAny (model X.prog X.w) X.A (f v) (EP X pins σ Q) X.xe s
def CallR (X:Cx)(f:Value)(r:List V->Hp->VK->Prop):Prop:=
 ∀(pins:List (Addr×Obj))(s:Shared)(σ:St)(H:Hp)(xs:List V)(us:List Value)(Q:VK),Inv X pins σ H s->Vals xs us->r xs H Q ->
  wpAny (model X.prog X.w) X.A (call f us) (EP X pins σ Q) X.xe s
def TruR (X:Cx)(r:V->Hp->(Bool->Hp->Prop)->Prop):Prop:=
 ∀(pins:List (Addr×Obj))(s:Shared)(σ:St)(H:Hp)(x:V)(v:Value)(Q:Bool->Hp->Prop),Inv X pins σ H s->RelV x v->r x H Q ->
  wpAny (model X.prog X.w) X.A (truthy v) (TP X pins σ Q) X.xe s
def tOp (r:R2)(ta tb:TE):TE:=fun σ H Q=>ta σ H fun x H1=>tb σ H1 fun y H2=>r x y H2 Q
def tUn (r:V->Hp->VK->Prop)(ta:TE):TE:=fun σ H Q=>ta σ H fun x H1=>r x H1 Q
def rI (C:Int->Int->Prop)(g:Int->Int->V):R2:=fun x y H Q=>∃ i j,x=.int i/\y=.int j/\C i j/\Q (g i j) H
def rI0 (g:Int->Int->V):R2:=fun x y H Q=>∃ i j,x=.int i/\y=.int j/\Q (g i j) H
def rU (g:Int->V):V->Hp->VK->Prop:=fun x H Q=>∃ i,x=.int i/\Q (g i) H
section
variable {X:Cx}{a b c:Expr}{ta tb tc:TE}{pos:Pos}
theorem binT (ha:PE X a ta)(hb:PE X b tb){pins:List (Addr×Obj)}{s:Shared}{σ:St}{H:Hp}{R:V->V->Hp->Prop}(I:Inv X pins σ H s)
  (h:ta σ H fun x H1=>tb σ H1 fun y H2=>R x y H2){Q:Value->Shared->Prop}{f:Value->Value->Sem Value}
  (hf:∀ v u s2 x y H2,Inv X pins σ H2 s2->RelV x v->RelV y u->R x y H2->wpAny (model X.prog X.w) X.A (f v u) Q X.xe s2) :
  wpAny (model X.prog X.w) X.A (eval a X.env) (fun v s₁=>wpAny (model X.prog X.w) X.A (eval b X.env) (fun u s₂=>wpAny (model X.prog X.w) X.A (f v u) Q X.xe s₂) X.xe s₁) X.xe s:=by
 refine thn (ha pins s σ H _ I h) fun v s1 ⟨x,H1,I1,r1,q1⟩=>?_;refine thn (hb pins s1 σ H1 _ I1 q1) fun u s2 ⟨y,H2,I2,r2,q2⟩=>?_;exact hf v u s2 x y H2 I2 r1 r2 q2
theorem zaC {op:Operator}{r:R2}(ho:OpR X (binaryOp op) r)(ha:PE X a ta)(hb:PE X b tb):PE X (.BinOp a op b pos) (tOp r ta tb):=by
 intro pins s σ H Q I h;exact wpAny_BinOp (binT ha hb I h fun v u s2 x y H2 I2 rx ry q=>ho pins s2 σ H2 x y v u Q I2 rx ry q)
theorem znq {op:UnaryOp}{r:V->Hp->VK->Prop}(ho:UnR X (unaryOp op) r)(ha:PE X a ta):PE X (.UnaryOp op a pos) (tUn r ta):=by
 intro pins s σ H Q I h;exact UnaryOp_ (thn (ha pins s σ H _ I h) fun v s1 ⟨x,H1,I1,r1,q1⟩=>ho pins s1 σ H1 x v Q I1 r1 q1)
theorem opI {f:Value->Value->Sem Value}{C:Int->Int->Prop}{g:Int->Int->Int}
  (rule:∀(i j:Int)(t u:Tok)(s:Shared)(Q:Value->Shared->Prop)(E:Value->Shared->Prop),C i j->Q (.int (g i j) s.toks) { s with toks:=s.toks+1 }->wpAny (model X.prog X.w) X.A (f (.int i t) (.int j u)) Q E s) :
  OpR X f (rI C fun i j=>.int (g i j)):=by
 intro pins s σ H x y v u Q I rx ry h;obtain⟨i,j,rfl,rfl,hc,q⟩:=h;obtain⟨t,rfl⟩:=rx;obtain⟨t',rfl⟩:=ry;exact rule i j t t' s _ _ hc ⟨.int (g i j),H,I.tok _,⟨_,rfl⟩,q⟩
theorem opI0 {f:Value->Value->Sem Value}{g:Int->Int->Int}
  (rule:∀(i j:Int)(t u:Tok)(s:Shared)(Q:Value->Shared->Prop)(E:Value->Shared->Prop),Q (.int (g i j) s.toks) { s with toks:=s.toks+1 }->wpAny (model X.prog X.w) X.A (f (.int i t) (.int j u)) Q E s) :
  OpR X f (rI0 fun i j=>.int (g i j)):=by
 intro pins s σ H x y v u Q I rx ry h;obtain⟨i,j,rfl,rfl,q⟩:=h;obtain⟨t,rfl⟩:=rx;obtain⟨t',rfl⟩:=ry;exact rule i j t t' s _ _ ⟨.int (g i j),H,I.tok _,⟨_,rfl⟩,q⟩
theorem opB0 {f:Value->Value->Sem Value}{g:Int->Int->Bool}
  (rule:∀(i j:Int)(t u:Tok)(s:Shared)(Q:Value->Shared->Prop)(E:Value->Shared->Prop),Q (.bool (g i j)) s->wpAny (model X.prog X.w) X.A (f (.int i t) (.int j u)) Q E s) :
  OpR X f (rI0 fun i j=>.bl (g i j)):=by
 intro pins s σ H x y v u Q I rx ry h;obtain⟨i,j,rfl,rfl,q⟩:=h;obtain⟨t,rfl⟩:=rx;obtain⟨t',rfl⟩:=ry;exact rule i j t t' s _ _ ⟨.bl (g i j),H,I,rfl,q⟩
def CDiv (i j:Int):Prop:=0<j/\j<1073741824
def CMul (i j:Int):Prop:=(-(2 ^ 64)<i/\i<2 ^ 64)\/(-(2 ^ 64)<j/\j<2 ^ 64)
theorem CMul.ok {i j:Int}(h:CMul i j):IntMulOk i j:=by
 rcases h with ⟨h1,h2⟩|⟨h1,h2⟩
 ·exact .of_left (intBits_le_64 h1 h2)
 ·exact .of_right (intBits_le_64 h1 h2)
theorem op_add:OpR X (binaryOp .Add) (rI0 fun i j=>.int (i+j)):=opI0 fun _ _ _ _ _ _ _ q=>add_int q
theorem znB:OpR X (binaryOp .Sub) (rI0 fun i j=>.int (i-j)):=opI0 fun _ _ _ _ _ _ _ q=>sub_int q
theorem zcR:OpR X (binaryOp .Mult) (rI CMul fun i j=>.int (i*j)):=opI fun _ _ _ _ _ _ _ hc q=>mul_int q hc.ok
theorem zlb:OpR X (binaryOp .FloorDiv) (rI CDiv fun i j=>.int (i / j)):=opI fun i j _ _ _ _ _ hc q=>by
 have h1:(0:Int)<j:=hc.1;have h2:j<1073741824:=hc.2;exact floordiv_int (by omega) (by rw[Int.fdiv_eq_ediv_of_nonneg i (by omega)];exact q) (.inl (PyProof.noPylong_small (by omega)))
theorem zcs:OpR X (binaryOp .Mod) (rI (fun _ j=>0<j) fun i j=>.int (i % j)):=opI fun i j _ _ _ _ _ hc q=>by
 have h1:(0:Int)<j:=hc;exact mod_int' (by omega) (by rw[Int.fmod_eq_emod_of_nonneg i (by omega)];exact q)
theorem unI {f:Value->Sem Value}{g:Int->Int}
  (rule:∀(i:Int)(t:Tok)(s:Shared)(Q:Value->Shared->Prop)(E:Value->Shared->Prop),Q (.int (g i) s.toks) { s with toks:=s.toks+1 }->wpAny (model X.prog X.w) X.A (f (.int i t)) Q E s) :
  UnR X f (rU fun i=>.int (g i)):=by
 intro pins s σ H x v Q I rx h;obtain⟨i,rfl,q⟩:=h;obtain⟨t,rfl⟩:=rx;exact rule i t s _ _ ⟨.int (g i),H,I.tok _,⟨_,rfl⟩,q⟩
theorem zjM:UnR X (unaryOp .USub) (rU fun i=>.int (-i)):=unI fun _ _ _ _ _ q=>neg_int q
end
def scal:V->V->Bool
 |.non,.non=>true|.non,.int _=>true|.int _,.non=>true|.non,.bl _=>true|.bl _,.non=>true|.non,.str _=>true|.str _,.non=>true
 |.int _,.int _=>true|.bl _,.bl _=>true|.str _,.str _=>true|.byt _,.byt _=>true
 |.int _,.str _=>true|.str _,.int _=>true|.bl _,.str _=>true|.str _,.bl _=>true
 |_,_=>false
def rEq:R2:=fun x y H Q=>scal x y=true/\Q (.bl (decide (x=y))) H
theorem zlX {i j:Int}:decide (V.int i=V.int j)=(i==j):=by
 rw[Bool.eq_iff_iff];simp
theorem zoV {i j:Bool}:decide (V.bl i=V.bl j)=(i==j):=by
 rw[Bool.eq_iff_iff];simp
theorem zlW {i j:Str}:decide (V.str i=V.str j)=(i==j):=by
 rw[Bool.eq_iff_iff];simp
theorem zlY {i j:Array UInt8}:decide (V.byt i=V.byt j)=(i.toList==j.toList):=by
 rw[Bool.eq_iff_iff];cases i;cases j;simp
section
variable {X:Cx}{a b c:Expr}{ta tb tc:TE}{pos:Pos}
theorem zaA {pins:List (Addr×Obj)}{σ:St}{H:Hp}{s:Shared}{Q:VK}{k k':Bool}(I:Inv X pins σ H s)(q:Q (.bl k) H)(e:k=k'):EP X pins σ Q (.bool k') s:=by
 subst e;exact⟨.bl k,H,I,rfl,q⟩
theorem znG:OpR X (compareOp .Eq) rEq:=by
 intro pins s σ H x y v u Q I rx ry h;obtain⟨hs,q⟩:=h
 cases x with
 |non=>
  cases rx
  cases y with
  |non=>cases ry;exact PySem.EqNone.eq_none_none (zaA I q (by simp))
  |bl j=>cases ry;exact PySem.EqNone.eq_none_bool (zaA I q (by simp))
  |int j=>obtain⟨t',rfl⟩:=ry;exact PySem.EqNone.eq_none_int (zaA I q (by simp))
  |str j=>obtain⟨t',rfl⟩:=ry;exact PySem.EqNone.eq_none_str (zaA I q (by simp))
  |_=>exact absurd (show false=true from hs) Bool.false_ne_true
 |bl i=>
  cases rx
  cases y with
  |non=>cases ry;exact PySem.EqNone.eq_bool_none (zaA I q (by simp))
  |bl j=>cases ry;exact eq_bool (zaA I q zoV)
  |str j=>obtain⟨t',rfl⟩:=ry;exact PySem.EqMixed.eq_bool_str (zaA I q (by simp))
  |_=>exact absurd (show false=true from hs) Bool.false_ne_true
 |int i=>
  obtain⟨t,rfl⟩:=rx
  cases y with
  |non=>cases ry;exact PySem.EqNone.eq_int_none (zaA I q (by simp))
  |int j=>obtain⟨t',rfl⟩:=ry;exact eq_int (zaA I q zlX)
  |str j=>obtain⟨t',rfl⟩:=ry;exact PySem.EqMixed.eq_int_str (zaA I q (by simp))
  |_=>exact absurd (show false=true from hs) Bool.false_ne_true
 |str i=>
  obtain⟨t,rfl⟩:=rx
  cases y with
  |non=>cases ry;exact PySem.EqNone.eq_str_none (zaA I q (by simp))
  |bl j=>cases ry;exact PySem.EqMixed.eq_str_bool (zaA I q (by simp))
  |int j=>obtain⟨t',rfl⟩:=ry;exact PySem.EqMixed.eq_str_int (zaA I q (by simp))
  |str j=>obtain⟨t',rfl⟩:=ry;exact eq_str (zaA I q zlW)
  |_=>exact absurd (show false=true from hs) Bool.false_ne_true
 |byt i=>
  obtain⟨t,rfl⟩:=rx
  cases y with
  |byt j=>obtain⟨t',rfl⟩:=ry;exact PySem.W.eq_bytes (zaA I q zlY)
  |_=>exact absurd (show false=true from hs) Bool.false_ne_true
 |_=>cases y<;>exact absurd (show false=true from hs) Bool.false_ne_true
theorem op_lt:OpR X (compareOp .Lt) (rI0 fun i j=>.bl (decide (i<j))):=opB0 fun _ _ _ _ _ _ _ q=>lt_int q
theorem ziW:OpR X (compareOp .Gt) (rI0 fun i j=>.bl (decide (j<i))):=opB0 fun _ _ _ _ _ _ _ q=>gt_int q
theorem zeg:OpR X (compareOp .Lt) (fun x y H Q=>∃ i j,x=.str i/\y=.str j/\Q (.bl (decide (i.cps.toList<j.cps.toList))) H):=by
 intro pins s σ H x y v u Q I rx ry h;obtain⟨i,j,rfl,rfl,q⟩:=h;obtain⟨t,rfl⟩:=rx;obtain⟨t',rfl⟩:=ry;exact lt_str (zaA I q rfl)
theorem zhi:OpR X (compareOp .In) (fun x y H Q=>∃ i j,x=.str i/\y=.str j/\Q (.bl (!(Builtin.Str.occurrences j i 0 j.length 1).isEmpty)) H):=by
 intro pins s σ H x y v u Q I rx ry h;obtain⟨i,j,rfl,rfl,q⟩:=h;obtain⟨t,rfl⟩:=rx;obtain⟨t',rfl⟩:=ry;exact in_str (zaA I q rfl)
theorem zla:OpR X (compareOp .IsNot) (fun x y H Q=>y=.non/\Q (.bl (!decide (x=.non))) H):=by
 intro pins s σ H x y v u Q I rx ry h;obtain⟨rfl,q⟩:=h;cases ry;refine isnot_none_gen (zaA I q ?_)
 cases x<;>first
  |(cases rx;rfl)
  |(obtain⟨t,rfl⟩:=rx;rfl)
theorem OpR.or {f:Value->Value->Sem Value}{r r':R2}(h:OpR X f r)(h':OpR X f r'):OpR X f (fun x y H Q=>r x y H Q\/r' x y H Q):=by
 intro pins s σ H x y v u Q I rx ry q;rcases q with q|q
 ·exact h pins s σ H x y v u Q I rx ry q
 ·exact h' pins s σ H x y v u Q I rx ry q
theorem nomark (b:Expr){op:CmpOp}(h:op≠.In:=by decide)(h2:op≠.NotIn:=by decide):behindInMarks op b=false:=by
 have e1:(op==CmpOp.In)=false:=by cases op<;>first|rfl|exact absurd rfl h
 have e2:(op==CmpOp.NotIn)=false:=by cases op<;>first|rfl|exact absurd rfl h2
 cases b<;>simp [behindInMarks,e1,e2]
theorem zhd {op:CmpOp}{r:R2}(ho:OpR X (compareOp op) r)(ha:PE X a ta)(hb:PE X b tb)(hm:behindInMarks op b=false):PE X (.Compare a [op] [b] pos) (tOp r ta tb):=by
 intro pins s σ H Q I h;exact wpAny_Compare1 (binT ha hb I h fun v u s2 x y H2 I2 rx ry q=>ho pins s2 σ H2 x y v u Q I2 rx ry q) hm
def tTest (t:TE):TT:=fun σ H Q=>t σ H fun x H'=>∃ k,x=.bl k/\Q k H'
theorem zcc {op:CmpOp}{r:R2}(ho:OpR X (compareOp op) r)(ha:PE X a ta)(hb:PE X b tb)(hm:behindInMarks op b=false):PT X (.Compare a [op] [b] pos) (tTest (tOp r ta tb)):=by
 intro pins s σ H Q I h
 refine wpAny_isTrue_Compare1 (thn (ha pins s σ H _ I h) fun v s1 ⟨x,H1,I1,r1,q1⟩=>thn (hb pins s1 σ H1 _ I1 q1) fun u s2 ⟨y,H2,I2,r2,q2⟩=>
  thn (ho pins s2 σ H2 x y v u _ I2 r1 r2 q2) fun c s3 ⟨z,H3,I3,r3,k,e,q3⟩=>?_) hm
 subst e;cases r3;exact wpAny_truthy_bool ⟨H3,I3,q3⟩
def TruV (K:Frag)(x:V)(H:Hp)(k:Bool):Prop:=
 match x with
 |.non=>k=false
 |.bl b=>k=b
 |.int i=>k=(i != 0)
 |.str y=>y.length<=sizeLine/\k=((y.length:Int) != 0)
 |.byt y=>y.size<=sizeLine/\k=((y.size:Int) != 0)
 |.ref p=>(∃ xs,SqL K H p xs/\k=!xs.isEmpty)\/(∃ xs,SqT K H p xs/\k=!xs.isEmpty)\/∃ kvs,H p=some (.dK kvs)/\k=!kvs.isEmpty
 |_=>False
theorem zfZ {κ:Type}{kvs:List (κ×V)}{vs:List (κ×Value)}(r:KV kvs vs):(!vs.isEmpty)=!kvs.isEmpty:=by
 cases r<;>rfl
theorem zdx {xs:List V}{its:List Value}(r:Vals xs its):(!its.toArray.isEmpty)=!xs.isEmpty:=by
 cases r<;>simp
theorem zcT:(sizeLine:Nat)<2 ^ 63:=by rw[sizeLine_eq];decide
theorem zmO:TruR X (fun x H Q=>∃ k,TruV X.K x H k/\Q k H):=by
 intro pins s σ H x v Q I rx h;obtain⟨k,e,q⟩:=h;have hl:=zcT;have hs:sizeLine=16777216:=sizeLine_eq
 cases x with
 |non=>
  cases rx;have e':k=false:=e;subst e';exact truthy_none ⟨H,I,q⟩
 |bl b=>
  cases rx;have e':k=b:=e;subst e';exact wpAny_truthy_bool ⟨H,I,q⟩
 |int i=>
  obtain⟨t,rfl⟩:=rx;have e':k=(i != 0):=e;subst e';exact PySem.P.truthy_int ⟨H,I,q⟩
 |str y=>
  obtain⟨t,rfl⟩:=rx;obtain⟨hy,e'⟩:y.length<=sizeLine/\k=((y.length:Int) != 0):=e;subst e';exact PySem.P.truthy_str (by omega) ⟨H,I.tok _,q⟩
 |byt y=>
  obtain⟨t,rfl⟩:=rx;obtain⟨hy,e'⟩:y.size<=sizeLine/\k=((y.size:Int) != 0):=e;subst e';exact PySem.W.truthy_bytes (by omega) ⟨H,I.tok _,q⟩
 |ref p=>
  cases rx;have e':(∃ xs,SqL X.K H p xs/\k=!xs.isEmpty)\/(∃ xs,SqT X.K H p xs/\k=!xs.isEmpty)\/∃ kvs,H p=some (.dK kvs)/\k=!kvs.isEmpty:=e;rcases e' with ⟨xs,hx,e'⟩|⟨xs,hx,e'⟩|⟨kvs,hx,e'⟩
  ·subst e';obtain⟨its,r,pl,hz⟩:=I.list hx;have hlen:=r.length;exact wpAny_truthy_list pl.isList (by simp only[List.size_toArray];omega) ⟨H,I.tok _,by rw[zdx r];exact q⟩
  ·subst e';obtain⟨its,r,pl,hz⟩:=I.tuple hx;have hlen:=r.length;exact truthy_tuple pl (by simp only[List.size_toArray];omega) ⟨H,I.tok _,by rw[zdx r];exact q⟩
  ·subst e';obtain⟨hz,hS,vs,r,m⟩:kvs.length<=sizeLine/\(p==sysModules)=false/\∃ vs,KV kvs vs/\s.heap.DictOf (mixKind X.prog X.w) p vs:=I.hok p _ hx;have hlen:kvs.length=vs.length:=Paired.length r;exact wpAny_truthy_dict hS m (by omega) ⟨H,I.tok _,by rw[zfZ r];exact q⟩
 |_=>exact(show False from e).elim
theorem ziP (ha:PE X a ta)(he:∀ whole,isTrue a X.env whole=(do let v <- whole;standAt a.pos;holding [v] (truthy v))) :
  PT X a (fun σ H Q=>ta σ H fun x H'=>∃ k,TruV X.K x H' k/\Q k H'):=by
 intro pins s σ H Q I h;exact isTrue_plain (thn (ha pins s σ H _ I h) fun v s1 ⟨x,H1,I1,r1,q1⟩=>zmO pins s1 σ H1 x v Q I1 r1 q1) (he _)
theorem op_add_str:OpR X (binaryOp .Add) (fun x y H Q=>∃ i j,x=.str i/\y=.str j/\i.length+j.length<=sizeLine/\Q (.str (i++j)) H):=by
 intro pins s σ H x y v u Q I rx ry h;obtain⟨i,j,rfl,rfl,hz,q⟩:=h;obtain⟨t,rfl⟩:=rx;obtain⟨t',rfl⟩:=ry;exact add_str (fun t' tk=>⟨.str (i++j),H,I.tok _,⟨_,rfl⟩,q⟩) hz
def PlainIxT (b:Expr):Prop:=∀ o i,subscripted b false o i=operate [o,i] (getItem o i)
theorem zeU (ha:PE X a ta)(hb:PE X b tb)(hs:PlainIxT b) :
  PE X (.Subscript a b pos) (tOp (fun x y H Q=>∃ z i c,x=.str z/\y=.int i/\0<=i/\i<2 ^ 63/\i<z.length/\z.cps[i.toNat]?=some c/\Q (.str ⟨#[c]⟩) H) ta tb):=by
 intro pins s σ H Q I h;refine Subscript_ (binT ha hb I h fun v u s2 x y H2 I2 rx ry q=>?_);obtain⟨z,i,c,rfl,rfl,h0,h63,h1,hc,q⟩:=q;obtain⟨t,rfl⟩:=rx;obtain⟨t',rfl⟩:=ry;have e:seqIndex? i z.length=some i.toNat:=PySem.StrLaws.seqIndex_nonneg h0 h1
 exact tail_any (typeIs_str s2 z t) slot_str_getitem.lookup (getItem_str (c:=c) (by
  have e1:decide (i < -(2 ^ 63:Int))=false:=decide_eq_false (by omega);have e2:decide (i≥2 ^ 63)=false:=decide_eq_false (by omega)
  rw[e1,e2]<;>rfl) (by rw[e];exact hc) ⟨.str ⟨#[c]⟩,H2,I2.tok _,⟨_,rfl⟩,q⟩) (hs _ _)
theorem zbk {x:V}{us:List Value}(r:Vals [x] us):∃ u,us=[u]/\RelV x u:=by
 cases r with
 |cons r1 r2=>cases r2;exact⟨_,rfl,r1⟩
theorem ziu {x y:V}{us:List Value}(r:Vals [x,y] us):∃ u w',us=[u,w']/\RelV x u/\RelV y w':=by
 cases r with
 |cons r1 r2=>
  cases r2 with
  |cons r3 r4=>cases r4;exact⟨_,_,rfl,r1,r3⟩
theorem zjE:CallR X (.builtin "abs") (fun xs H Q=>∃ i,xs=[.int i]/\Q (.int (if i<0 then -i else i)) H):=by
 intro pins s σ H xs us Q I r h;obtain⟨i,rfl,q⟩:=h;obtain⟨u,rfl,t,rfl⟩:=zbk r;exact call_abs_int fun u tk=>⟨.int (if i<0 then -i else i),H,I.tok _,⟨_,rfl⟩,q⟩
theorem zik (hc:X.calm=true):CallR X (.builtin "max") (fun xs H Q=>∃ i j,xs=[.int i,.int j]/\Q (.int (if j > i then j else i)) H):=by
 intro pins s σ H xs us Q I r h;obtain⟨i,j,rfl,q⟩:=h;obtain⟨u,w',rfl,⟨t,rfl⟩,⟨t',rfl⟩⟩:=ziu r;refine max_two_ints (I.ok.hd hc) fun h' tk k=>⟨_,H,I.kept k,?_,q⟩;by_cases hj:j > i
 ·rw[if_pos hj,if_pos hj];exact⟨_,rfl⟩
 ·rw[if_neg hj,if_neg hj];exact⟨_,rfl⟩
theorem zij (hc:X.calm=true):CallR X (.builtin "min") (fun xs H Q=>∃ i j,xs=[.int i,.int j]/\Q (.int (if j<i then j else i)) H):=by
 intro pins s σ H xs us Q I r h;obtain⟨i,j,rfl,q⟩:=h;obtain⟨u,w',rfl,⟨t,rfl⟩,⟨t',rfl⟩⟩:=ziu r;refine min_two_ints (I.ok.hd hc) fun h' tk k=>⟨_,H,I.kept k,?_,q⟩;by_cases hj:j<i
 ·rw[if_pos hj,if_pos hj];exact⟨_,rfl⟩
 ·rw[if_neg hj,if_neg hj];exact⟨_,rfl⟩
theorem zil:CallR X (.type "int") (fun xs H Q=>(∃ i,xs=[.int i]/\Q (.int i) H)\/∃ k,xs=[.bl k]/\Q (.int (if k then 1 else 0)) H):=by
 intro pins s σ H xs us Q I r h;rcases h with ⟨i,rfl,q⟩|⟨k,rfl,q⟩
 ·obtain⟨u,rfl,t,rfl⟩:=zbk r;exact call_int_int ⟨.int i,H,I,⟨_,rfl⟩,q⟩
 ·obtain⟨u,rfl,r1⟩:=zbk r;cases r1;exact call_int_bool ⟨.int (if k then 1 else 0),H,I.tok _,⟨_,rfl⟩,q⟩
def LenV (K:Frag)(x:V)(H:Hp)(n:Nat):Prop:=
 match x with
 |.str y=>y.length<=sizeLine/\n=y.length
 |.byt y=>y.size<=sizeLine/\n=y.size
 |.ref p=>(∃ xs,SqL K H p xs/\n=xs.length)\/∃ xs,SqT K H p xs/\n=xs.length
 |_=>False
theorem zjD:CallR X (.builtin "len") (fun xs H Q=>∃ x n,xs=[x]/\LenV X.K x H n/\Q (.int n) H):=by
 intro pins s σ H xs us Q I r h;obtain⟨x,n,rfl,e,q⟩:=h;obtain⟨u,rfl,rx⟩:=zbk r;have hl:=zcT;have hs:sizeLine=16777216:=sizeLine_eq
 cases x with
 |str y=>
  obtain⟨t,rfl⟩:=rx;obtain⟨hy,e'⟩:y.length<=sizeLine/\n=y.length:=e;subst e';exact len_str (by omega) ⟨.int _,H,I.tok _,⟨_,rfl⟩,q⟩
 |byt y=>
  obtain⟨t,rfl⟩:=rx;obtain⟨hy,e'⟩:y.size<=sizeLine/\n=y.size:=e;subst e';exact PySem.W.len_bytes (by omega) ⟨.int _,H,I.tok _,⟨_,rfl⟩,q⟩
 |ref p=>
  cases rx;have e':(∃ xs,SqL X.K H p xs/\n=xs.length)\/∃ xs,SqT X.K H p xs/\n=xs.length:=e;rcases e' with ⟨xs,hx,e'⟩|⟨xs,hx,e'⟩
  ·subst e';obtain⟨its,r',pl,hz⟩:=I.list hx;have hlen:=r'.length;exact Calls.call_len_list pl.isList (by simp only[List.size_toArray];omega) ⟨.int xs.length,H,I.tok _,⟨_,by simp only[List.size_toArray];rw[hlen]⟩,q⟩
  ·subst e';obtain⟨its,r',pl,hz⟩:=I.tuple hx;have hlen:=r'.length;exact len_tuple pl (by simp only[List.size_toArray];omega) ⟨.int xs.length,H,I.tok _,⟨_,by simp only[List.size_toArray];rw[hlen]⟩,q⟩
 |_=>exact(show False from e).elim
end
end L2
namespace L2
open PySem PySem.Spec PyProof.Rows
structure ObjM (h:Heap)(x dx C:Addr)(mA:Str->Option Value):Prop where
 obj:h.get? x=some (PySem.W.instObj C dx)
 ns:h.Ns1 dx mA
 ne:dx≠x
theorem zhs {h:Heap}{dx:Addr}{mA:Str->Option Value}(n:h.Ns1 dx mA):∃ od,h.get? dx=some od/\∀ name,PySem.W.lookIn name od=some (mA name):=by
 obtain⟨o,es,ep,ho,hd,hk,_,hm⟩:=n;refine⟨o,ho,fun name=>?_⟩;have e:=hm name;unfold nsFind findBy at e;rw[<- Array.find?_toList] at e;unfold PySem.W.lookIn;rw[hd];dsimp only
 split
 ·rename_i y q;rw[q] at e;exact congrArg some e
 ·rename_i q;rw[q] at e
  have a:es.toList.any (·.refKey)=false:=by
   rw[List.any_eq_false];intro y hy;obtain⟨z,t,hkey⟩:=hk y (Array.mem_toList_iff.mp hy);simp [DictEntry.refKey,hkey]
  have a':¬ es.toList.any (·.refKey)=true:=by rw[a];exact Bool.false_ne_true
  rw[if_neg a'];exact congrArg some e
theorem ObjM.look {h:Heap}{x dx C:Addr}{mA:Str->Option Value}(I:ObjM h x dx C mA):∃ od,PySem.W.InstAt h x (PySem.W.instObj C dx) C (some od)/\∀ name,PySem.W.lookIn name od=some (mA name):=
 let ⟨od,ho,hl⟩:=zhs I.ns
 ⟨od,⟨I.obj,rfl,rfl,ho⟩,hl⟩
section
variable {prog:Program}{w:World}{A:Around}{E:Value->Shared->Prop}{s:Shared}{K:Frag}{x dx C f:Addr}{mA:Str->Option Value}{name:Str}{v:Value}
end
theorem RelO.some_of {v:V}{o:Option Value}(r:RelO (some v) o):∃ u,o=some u/\RelV v u:=by
 cases o with
 |none=>exact(show False from r).elim
 |some u=>exact⟨u,rfl,r⟩
section
variable {P:Program}{w:World}{H H':Hp}{h h':Heap}{a C dx:Addr}{fs fs':List (Str×V)}
theorem zly (hok:HOk P w H h)(e:H a=some (.ins C dx fs)):∃ mA,ObjM h a dx C mA/\(∀ f,RelO (fs.lookup f) (mA f))/\PySem.Within mA (fs.map (·.1))/\fs.length<=1000/\H dx=some (.own a):=by
 obtain⟨d,z,ne,ob,mA,n,r,q⟩:=(show ObjOk P w H h a (.ins C dx fs) from hok a _ e);exact⟨mA,⟨ob,n,ne⟩,r,q,z,d⟩
end
structure Cls (K:Frag)(C:Addr):Prop where
 pg:PySem.W.plainGet K C Str.empty=true
 hd:PySem.W.hasDictIn K C=true
 po:PySem.W.plainOver K C=true
 sa:PySem.W.findIn K (.ref C) "__setattr__"=some (some (.builtin "object.__setattr__"))
theorem Cls.get {K:Frag}{C:Addr}(c:Cls K C)(f:Str):PySem.W.plainGet K C f=true:=c.pg
structure Con (K:Frag)(C:Addr)(f:Str)(v:V)(u:Value):Prop where
 at_:PySem.W.findIn K (.ref C) f=some (some u)
 rel:RelV v u
 get:PySem.W.specialIn K u "__get__"=some none
 cp:PySem.W.copiedNames.contains f=false
section
variable {X:Cx}{pins:List (Addr×Obj)}{σ:St}{H:Hp}{s:Shared}{a C dx:Addr}{fs:List (Str×V)}{f:Str}{v:V}{A:Around}{E:Value->Shared->Prop}
end
section
variable {X:Cx}{o e value:Expr}{f:Str}{pos pos' tpos:Pos}{ta tv:TE}
end
section
variable {X:Cx}{pins:List (Addr×Obj)}{σ:St}{H:Hp}{s:Shared}{A:Around}{E:Value->Shared->Prop}{Q:Value->Shared->Prop}{c:Value}{b:Bool}
inductive TyOf (K:Frag)(H:Hp):V->Value->Prop where
 |non:TyOf K H .non (.type "NoneType")
 |bl (x:Bool):TyOf K H (.bl x) (.type "bool")
 |int (i:Int):TyOf K H (.int i) (.type "int")
 |str (x:Str):TyOf K H (.str x) (.type "str")
 |flt (x:UInt64):TyOf K H (.flt x) (.type "float")
 |lst {a:Addr}{xs:List V}(e:H a=some (.lst xs)):TyOf K H (.ref a) (.type "list")
 |frz {a:Addr}{o:Obj}{xs:List V}(e:H a=some (.frz o (.lst xs))):TyOf K H (.ref a) (.type "list")
 |tup {a:Addr}{xs:List V}(e:H a=some (.tup xs)):TyOf K H (.ref a) (.type "tuple")
 |dK {a:Addr}{kvs:List (Key×V)}(e:H a=some (.dK kvs)):TyOf K H (.ref a) (.type "dict")
 |dT {a:Addr}{kvs:List (List Key×V)}(e:H a=some (.dT kvs)):TyOf K H (.ref a) (.type "dict")
 |ins {a C dx:Addr}{fs:List (Str×V)}(e:H a=some (.ins C dx fs))(cl:Cls K C)(ha:PySem.W.findIn K (.ref C) "__class__"=some (some (.builtin "object.__class__")))
   (hn:PySem.W.specialIn K (.builtin "object.__class__") "__get__"=some (some (.builtin "getset_descriptor.__get__")))(htk:PySem.W.takesIn K (.builtin "object.__class__")=some true)
   (hm:PySem.W.mroIn K C (.type "object")=some true):TyOf K H (.ref a) (.ref C)
theorem zhD {x:V}{u t:Value}(I:Inv X pins σ H s)(rx:RelV x u)(ty:TyOf X.K H x t)(e:PySem.W.kitOne X.K t c=some b)(h:∀ tk,Q (.bool b) { s with toks:=tk }) :
  wpAny (model X.prog X.w) A (call (.builtin "isinstance") [u,c]) Q E s:=by
 cases ty with
 |non=>cases (show u=Value.none from rx);exact PySem.W.kia_one PySem.W.kitx_none I.kIn True.intro e (fun z=>nomatch z) h
 |bl y=>cases (show u=Value.bool y from rx);exact PySem.W.kia_one PySem.W.kitx_bool I.kIn True.intro e (fun z=>nomatch z) h
 |int i=>obtain⟨t,q⟩:=(show ∃ t,u=Value.int i t from rx);cases q;exact PySem.W.kia_one PySem.W.kitx_int I.kIn True.intro e (fun z=>nomatch z) h
 |str y=>obtain⟨t,q⟩:=(show ∃ t,u=Value.str y t from rx);cases q;exact PySem.W.kia_one PySem.W.kitx_str I.kIn True.intro e (fun z=>nomatch z) h
 |flt y=>obtain⟨t,q⟩:=(show ∃ t,u=Value.float y t from rx);cases q;exact PySem.W.kia_one PySem.W.kitx_float I.kIn True.intro e (fun z=>nomatch z) h
 |@lst a xs ea=>
  cases (show u=Value.ref a from rx);obtain⟨_,_,n,_,h1⟩:=(show ObjOk X.prog X.w H s.heap a (.lst xs) from I.hok a _ ea);exact PySem.W.kia_one PySem.W.kitx_list I.kIn ⟨_,h1,rfl⟩ e (fun z=>nomatch z) h
 |@frz a ob xs ea=>
  cases (show u=Value.ref a from rx);obtain⟨_,_,_,n,_,h1⟩:=(show ObjOk X.prog X.w H s.heap a (.frz ob (.lst xs)) from I.hok a _ ea);exact PySem.W.kia_one PySem.W.kitx_list I.kIn ⟨_,h1,rfl⟩ e (fun z=>nomatch z) h
 |@tup a xs ea=>
  cases (show u=Value.ref a from rx);obtain⟨_,_,_,p⟩:=(show ObjOk X.prog X.w H s.heap a (.tup xs) from I.hok a _ ea);obtain⟨o,h1,h2,_⟩:=p;exact PySem.W.kia_one PySem.W.kitx_tuple I.kIn ⟨o,h1,h2⟩ e (fun z=>nomatch z) h
 |@dK a kvs ea=>
  cases (show u=Value.ref a from rx);obtain⟨_,_,vs,_,p⟩:=(show ObjOk X.prog X.w H s.heap a (.dK kvs) from I.hok a _ ea);obtain⟨o,es,ep,h1,h2,_⟩:=p;exact PySem.W.kia_one PySem.W.kitx_dict I.kIn ⟨o,h1,h2.1⟩ e (fun z=>nomatch z) h
 |@dT a kvs ea=>
  cases (show u=Value.ref a from rx);obtain⟨_,_,xs,_,o,es,ep,h1,h2,_⟩:=(show ObjOk X.prog X.w H s.heap a (.dT kvs) from I.hok a _ ea);exact PySem.W.kia_one PySem.W.kitx_dict I.kIn ⟨o,h1,h2.1⟩ e (fun z=>nomatch z) h
 |@ins a C dx fs ea cl ha hn htk hm=>
  cases (show u=Value.ref a from rx);obtain⟨mA,O,_⟩:=zly I.hok ea;obtain⟨od,J,_⟩:=O.look;exact PySem.W.kia_one (PySem.W.kitx_own (cl.get _) cl.hd ha hn htk hm) I.kIn J e (fun z=>nomatch z) h
end
end L2
namespace L2
open PySem PySem.Spec PyProof.Rows
structure Room (k:Nat)(A:Around):Prop where
 hd:A.handled=none
 dp:A.depth+3*k+5<recursionLimit
 un:A.units+16*k+200<cLine
theorem Room.mono {j k:Nat}{A:Around}(r:Room k A)(h:j<=k):Room j A:=⟨r.hd,by have:=r.dp;omega,by have:=r.un;omega⟩
theorem Room.deeper {k:Nat}{A:Around}(r:Room (k+1) A)(env:Env):Room k (A.deeper env):=
 ⟨r.hd,by have:=r.dp;show A.depth+1+3*k+5<_;omega,by have:=r.un;show A.units+3+16*k+200<_;omega⟩
theorem Room.depth {k:Nat}{A:Around}(r:Room k A):A.depth<recursionLimit:=by have:=r.dp;omega
theorem Room.units {k:Nat}{A:Around}(r:Room k A):A.units+64<cLine:=by have:=r.un;omega
def tNil:TA:=fun _ H Q=>Q [] H
def tCons (ta:TE)(tr:TA):TA:=fun σ H Q=>ta σ H fun x H1=>tr σ H1 fun xs H2=>Q (x::xs) H2
section
variable {X:Cx}{e:Expr}{es:List Expr}{te:TE}{t:TA}{pos:Pos}
theorem pa_nil:PA X [] tNil:=fun _ _ _ _ H Q I h=>Calls.spliced_nil ⟨[],H,I,.nil,h⟩
theorem zaf (ha:PE X e te)(hr:PA X es t)(hs:starEach (e::es) X.env=(false,eval e X.env)::starEach es X.env:=by rfl):PA X (e::es) (tCons te t):=by
 intro pos pins s σ H Q I h;rw[hs];show wpAny _ _ (spliced ((false,eval e X.env)::backTo pos (starEach es X.env))) _ _ s;refine Calls.spliced_cons (thn (ha pins s σ H _ I h) fun u s1 ⟨x,H1,I1,r1,q1⟩=>?_);exact thn (hr pos pins s1 σ H1 _ I1 q1) fun us s2 ⟨xs,H2,I2,r2,q2⟩=>⟨x::xs,H2,I2,.cons r1 r2,q2⟩
def tTup (t:TA):TE:=fun σ H Q=>t σ H fun xs H1=>xs.length<=sizeLine/\∀ p,H1 p=none->Q (.ref p) (upd H1 p (.tup xs))
def tLst (t:TA):TE:=fun σ H Q=>t σ H fun xs H1=>xs.length<=sizeLine/\∀ p,H1 p=none->Q (.ref p) (upd H1 p (.lst xs))
theorem znr {x1}(h:PA X es t):PE X (.Tuple es x1 pos) (tTup t):=by
 intro pins s σ H Q I hq;refine wpAny_Tuple_spliced (thn (h pos pins s σ H _ I hq) fun us s1 ⟨xs,H1,I1,r,z,q⟩=>⟨by rw[<- r.length];exact z,?_⟩);have hf:H1 s1.heap.objs.size=none:=I1.hok.fresh (Nat.le_refl _);refine⟨.ref s1.heap.objs.size,upd H1 s1.heap.objs.size (.tup xs),I1.laid (t':=s1.toks) (fun b u e=>Heap.get?_push_of_some _ e) (Nat.le_refl _) ?_,rfl,q _ hf⟩;exact⟨z,us,r,⟨_,Heap.get?_push_size _ rfl,rfl,_,rfl⟩⟩
theorem znv (h:PA X es t):PE X (.List es pos) (tLst t):=by
 intro pins s σ H Q I hq;refine wpAny_List_spliced (thn (h pos pins s σ H _ I hq) fun us s1 ⟨xs,H1,I1,r,z,q⟩=>⟨by rw[<- r.length];exact z,?_⟩);have hf:H1 s1.heap.objs.size=none:=I1.hok.fresh (Nat.le_refl _);refine⟨.ref s1.heap.objs.size,upd H1 s1.heap.objs.size (.lst xs),I1.laid (t':=s1.toks) (fun b u e=>Heap.get?_push_of_some _ e) (Nat.le_refl _) ?_,rfl,q _ hf⟩;exact⟨z,us,0,r,Heap.get?_push_size _ rfl⟩
end
abbrev Sp:=List V->Hp->VK->XK->Prop
abbrev CXT:=List Env->Hp->Shared->XK->Value->Shared->Prop
structure Env0 (P:Program)(w:World)(K:Frag)(mg:Str->Option Value)(base:Heap)(A:Around)(outer:List Env)(s:Shared)(H:Hp):Prop where
 frames:A.frames=some outer
 mod:Mod K mg base
 bs:∀ b o,base.get? b=some o->s.heap.get? b=some o/\H b=none
 bsz:base.objs.size<=s.heap.objs.size
 funs:s.heap.FunFrames base outer
 frf:∀ b∈frs outer,H b=none
 hok:HOk P w H s.heap
 bare:AllBare s.gens
def CE (outer:List Env)(P:Program)(w:World)(H:Hp)(s:Shared)(Q:VK)(u:Value)(s':Shared):Prop:=
 ∃ v H',s'.os=s.os/\AllBare s'.gens/\Un (frs outer) [] H H' s.heap s'.heap/\HOk P w H' s'.heap/\RelV v u/\Q v H'
def CR (CX:CXT)(outer:List Env)(P:Program)(w:World)(H:Hp)(s:Shared)(Q:VK)(E:XK)(r:Result)(s':Shared):Prop:=
 match r with
 |.ok (.ret u)=>CE outer P w H s Q u s'
 |.ok _=>False
 |.error e=>CX outer H s E e s'
structure FnOk (P:Program)(w:World)(K:Frag)(mg:Str->Option Value)(base:Heap)(CX:CXT)(k:Nat)(f:Addr)(fd:FuncData)(ps:List Str)(sp:Sp):Prop where
 len:∀ vs H Q E,sp vs H Q E->vs.length=ps.length
 run:∀(A:Around)(outer:List Env)(s:Shared)(H:Hp)(args:Args)(us:List Value)(vs:List V)(Q:VK)(E:XK),Room k A->Env0 P w K mg base A outer s H->BindsTo s fd args (ps.zip us)->Vals vs us->sp vs H Q E ->
  codeAny (model P w) A (.call (.ref f) args) (CR CX outer P w H s Q E) s
theorem FnOk.mono {P:Program}{w:World}{K:Frag}{mg:Str->Option Value}{base:Heap}{CX:CXT}{j k:Nat}{f:Addr}{fd:FuncData}{ps:List Str}{sp:Sp}(F:FnOk P w K mg base CX j f fd ps sp)(h:j<=k) :
  FnOk P w K mg base CX k f fd ps sp:=⟨F.len,fun A outer s H args us vs Q E hr=>F.run A outer s H args us vs Q E (hr.mono h)⟩
theorem FnOk.imp {P:Program}{w:World}{K:Frag}{mg:Str->Option Value}{base:Heap}{CX:CXT}{k:Nat}{f:Addr}{fd:FuncData}{ps:List Str}{sp sp':Sp}(F:FnOk P w K mg base CX k f fd ps sp)
  (h:∀ vs H Q E,sp' vs H Q E->sp vs H Q E):FnOk P w K mg base CX k f fd ps sp':=
 ⟨fun vs H Q E q=>F.len vs H Q E (h _ _ _ _ q),fun A outer s H args us vs Q E hr he hb hv hs=>F.run A outer s H args us vs Q E hr he hb hv (h _ _ _ _ hs)⟩
section
variable {X:Cx}{pins:List (Addr×Obj)}{σ:St}{H:Hp}{s s':Shared}
theorem Inv.env0 (I:Inv X pins σ H s):Env0 X.prog X.w X.K X.mg X.base X.A X.stack s H:=
 ⟨I.ok.frames,I.ok.mod,I.bs,Nat.le_trans I.ok.bsz I.sz,I.stack,I.stkFree,I.hok,I.bare⟩
theorem Inv.after {Q:VK}{u:Value}(I:Inv X pins σ H s)(h:CE X.stack X.prog X.w H s Q u s'):EP X pins σ Q u s':=by
 obtain⟨v,H',os,bare,un,hok,r,q⟩:=h;obtain⟨hh,g,d,t,os'⟩:=s';obtain rfl:os'=s.os:=os;exact⟨v,H',I.call (h':=hh) (g':=g) (d':=d) (t':=t) (ch:=[]) un hok bare (fun b z=>absurd z (by simp)),r,q⟩
end
def tCall (sp:Sp)(dvs:List V)(E:XK)(t:TA):TE:=fun σ H Q=>t σ H fun vs H1=>sp (vs++dvs) H1 Q E
def Binds (K:Frag)(fd:FuncData)(ps:List Str)(ds:List Value):Prop:=
 ∀(s:Shared)(us:List Value),K.In s.heap->(us++ds).length=ps.length->BindsTo s fd ⟨us,[]⟩ (ps.zip (us++ds))
theorem Binds.all {K:Frag}{fd:FuncData}{ps:List Str}(h:∀ us:List Value,us.length=ps.length->bindArgs fd ⟨us,[]⟩=pure (ps.zip us)):Binds K fd ps []:=fun s us _ hl=>by
 rw[List.append_nil] at hl ⊢;exact .of_eq (h us hl)
def Passes (CX:CXT)(X:Cx)(E:XK):Prop:=∀(pins:List (Addr×Obj))(σ:St)(H:Hp)(s:Shared)(e:Value)(s':Shared),Inv X pins σ H s->CX X.stack H s E e s'->X.xe e s'
section
variable {X:Cx}{CX:CXT}{k:Nat}{f C:Addr}{fd:FuncData}{ps:List Str}{sp:Sp}{dvs:List V}{ds:List Value}{E:XK}{x m:Str}{p pos apos:Pos}{e o:Expr}{es:List Expr}{ta:TE}{t:TA}
theorem zmV {pins:List (Addr×Obj)}{σ:St}{H:Hp}{s:Shared}{Q:VK}{us:List Value}{vs:List V}(F:FnOk X.prog X.w X.K X.mg X.base CX k f fd ps sp)(hr:Room k X.A)(hb:Binds X.K fd ps ds)(hd:Vals dvs ds)(hx:Passes CX X E)
  (I:Inv X pins σ H s)(r:Vals vs us)(h:sp (vs++dvs) H Q E):wpAny (model X.prog X.w) X.A (call (.ref f) us) (EP X pins σ Q) X.xe s:=by
 have r2:Vals (vs++dvs) (us++ds):=r.append hd;have hl:(us++ds).length=ps.length:=by rw[<- r2.length];exact F.len _ _ _ _ h
 refine wpAny_call (codeAny_mono (F.run X.A X.stack s H ⟨us,[]⟩ (us++ds) (vs++dvs) Q E hr I.env0 (hb s us I.kIn hl) r2 h) fun r s' hq=>?_)
 cases r with
 |error e=>exact hx pins σ H s e s' I hq
 |ok fl=>
  cases fl with
  |ret u=>exact I.after hq
  |next=>exact False.elim hq
  |brk=>exact False.elim hq
  |cont=>exact False.elim hq
theorem zaV (F:FnOk X.prog X.w X.K X.mg X.base CX k f fd ps sp)(hr:Room k X.A)(hg:Gl X x)(hm:X.mg x=some (.ref f))(hk:PySem.W.keepIn X.K (.ref f)=true)(hb:Binds X.K fd ps ds)(hd:Vals dvs ds)(hx:Passes CX X E)
  (ha:PA X (e::es) t)(hdb:(x==("__debug__":Str))=false:=by decide)(he:starEach (e::es) X.env=(false,eval e X.env)::starEach es X.env:=by rfl)(hpl:(backTo pos (starEach es X.env)).any (·.1)=false:=by rfl) :
  PE X (.Call (.Name x p) (e::es) [] pos) (tCall sp dvs E t):=by
 intro pins s σ H Q I h;refine wpAny_Call_Name_kw (zln I hg hm ?_ hdb);refine PySem.W.callWith_K (h₀:=X.base) I.ok.mod.kin hk (thn (ha pos pins s σ H _ I h) fun us s1 ⟨vs,H1,I1,r,q⟩=>⟨I1.kIn,?_⟩) he hpl;exact zmV F hr hb hd hx I1 r q
structure Mk (K:Frag)(C f:Addr):Prop where
 makes:PySem.W.makesIn K C=true
 init:PySem.W.findIn K (.ref C) "__init__"=some (some (.ref f))
 fn:PySem.W.isFn K (.ref f)=true
 kp:PySem.W.keepIn K (.ref C)=true
end
section
variable {X:Cx}{CX:CXT}{k:Nat}{f C:Addr}{fd:FuncData}{ps ks:List Str}{sp:Sp}{E:XK}{x m:Str}{p pos apos kpos:Pos}{e o:Expr}{es:List Expr}{kws:List Keyword}{te ta:TE}{t tk:TA}{nm:Option Str}
variable {g:List Value->List Value->List Value}{gV:List V->List V->List V}
end
structure FnScope (N P:List Str)(sc:Scope):Prop where
 kind:sc.kind=.function
 co:sc.isCoroutine=false
 gen:sc.isGenerator=false
 nd:N.Nodup
 pre:N.take P.length=P
 par:∀ x∈P,sc.names.lookup x=some .local\/sc.names.lookup x=some .cell
 nofree:∀ y∈sc.names,y.2≠.free
theorem zeJ {kindOf:Str->Option NameKind}{x:Str}:∀{binds:List (Str×Value)}{m:Str->Option Value},(∀ v,(x,v)∉binds)->bindL kindOf binds m x=m x
 |[],_,_=>rfl
 |(n,v)::r,m,h=>by
  unfold bindL;rw[zeJ fun w hw=>h w (List.mem_cons_of_mem _ hw)]
  split
  ·have:x≠n:=by rintro rfl;exact h v List.mem_cons_self
   simp [this]
  ·rfl
theorem zeL {kindOf:Str->Option NameKind}{x:Str}:∀{binds:List (Str×Value)}{m:Str->Option Value},(∀ v,(x,v)∉binds)->bindC kindOf binds m x=m x
 |[],_,_=>rfl
 |(n,v)::r,m,h=>by
  unfold bindC;rw[zeL fun w hw=>h w (List.mem_cons_of_mem _ hw)]
  split
  ·rfl
  ·have:x≠n:=by rintro rfl;exact h v List.mem_cons_self
   simp [this]
theorem zeK {kindOf:Str->Option NameKind}{x:Str}{v:Value}:∀{P:List Str}{vs:List Value}{i:Nat}{m:Str->Option Value},P.Nodup->P[i]?=some x->vs[i]?=some v->kindOf x=some .local ->
  bindL kindOf (P.zip vs) m x=some v
 |[],_,_,_,_,h,_,_=>by simp at h
 |_::_,[],_,_,_,_,h,_=>by simp at h
 |p::P,w::vs,0,m,nd,h1,h2,hk=>by
  simp at h1 h2;subst h1;subst h2;show bindL kindOf ((p,w)::P.zip vs) m p=_;unfold bindL;rw[zeJ fun v hv=>(List.nodup_cons.mp nd).1 (List.of_mem_zip hv).1,if_pos hk];simp
 |p::P,w::vs,i+1,m,nd,h1,h2,hk=>by
  show bindL kindOf ((p,w)::P.zip vs) m x=_;unfold bindL;exact zeK (i:=i) (List.nodup_cons.mp nd).2 (by simpa using h1) (by simpa using h2) hk
theorem zeM {kindOf:Str->Option NameKind}{x:Str}{v:Value}:∀{P:List Str}{vs:List Value}{i:Nat}{m:Str->Option Value},P.Nodup->P[i]?=some x->vs[i]?=some v->kindOf x≠some .local ->
  bindC kindOf (P.zip vs) m x=some v
 |[],_,_,_,_,h,_,_=>by simp at h
 |_::_,[],_,_,_,_,h,_=>by simp at h
 |p::P,w::vs,0,m,nd,h1,h2,hk=>by
  simp at h1 h2;subst h1;subst h2;show bindC kindOf ((p,w)::P.zip vs) m p=_;unfold bindC;rw[zeL fun v hv=>(List.nodup_cons.mp nd).1 (List.of_mem_zip hv).1,if_neg hk];simp
 |p::P,w::vs,i+1,m,nd,h1,h2,hk=>by
  show bindC kindOf ((p,w)::P.zip vs) m x=_;unfold bindC;exact zeM (i:=i) (List.nodup_cons.mp nd).2 (by simpa using h1) (by simpa using h2) hk
def start (N:List Str)(vs:List V):St:=vs.map some++List.replicate (N.length-vs.length) none
def cxOf (CX:CXT)(P:Program)(w:World)(K:Frag)(mg:Str->Option Value)(base:Heap)(N:List Str)(qual:Str)(scope:Scope)(f:Addr)(cd:Value)(A:Around)(outer:List Env)(s:Shared)(H:Hp)(E:XK):Cx where
 prog:=P
 w:=w
 K:=K
 mg:=mg
 base:=base
 A:=A.deeper (envOfC qual scope s.heap.objs.size f cd)
 N:=N
 s₀:=s
 H₀:=H
 env:=envOfC qual scope s.heap.objs.size f cd
 outer:=outer
 stack:=envOfC qual scope s.heap.objs.size f cd::outer
 ex:=[]
 calm:=true
 fn:=fun _=>true
 pn:=[]
 xe:=fun e s'=>wpAny (model P w) (A.deeper (envOfC qual scope s.heap.objs.size f cd)) (leaving (envOfC qual scope s.heap.objs.size f cd) e) (fun _ s''=>CX outer H s E e s'') (fun e' s''=>CX outer H s E e' s'') s'
theorem zfJ {sc:Scope}{n:Nat}{x:Str}(h:sc.names.lookup x=some .cell):∃ c,(cellsFrom n sc.names []).lookup x=some c:=by
 have q:=PySem.W.cellsFrom_some sc.names n [] (.inl h);exact Option.isSome_iff_exists.mp q
theorem zhE {CX:CXT}{P:Program}{w:World}{K:Frag}{mg:Str->Option Value}{base:Heap}{N ps:List Str}{qual:Str}{scope:Scope}{f:Addr}{cd:Value}{A:Around}{outer:List Env}{s s1:Shared}{H:Hp}{E:XK}{us:List Value}{vs:List V}
  (S:FnScope N ps scope)(hd:A.handled=none)(e0:Env0 P w K mg base A outer s H)(hl:vs.length=ps.length)(r:Vals vs us)
  (x:InCallC s s.heap.objs.size (bindL (envOfC qual scope s.heap.objs.size f cd).kindOf (ps.zip us) fun _=>none) (cellsFrom (s.heap.objs.size+1) scope.names []) (bindC (envOfC qual scope s.heap.objs.size f cd).kindOf (ps.zip us) fun _=>none) s1) :
  Inv (cxOf CX P w K mg base N qual scope f cd A outer s H E) [] (start N vs) H s1:=by
 have hpl:ps.length<=N.length:=by have:=congrArg List.length S.pre;rw[List.length_take] at this;omega
 obtain⟨h1,tk,rfl,hk⟩:=x.done;have noA:∀ b:Addr,b∉(cxOf CX P w K mg base N qual scope f cd A outer s H E).ex:=fun b z=>absurd (show b∈([]:List Addr) from z) (by simp)
 refine⟨⟨e0.mod,S.kind,rfl,rfl,Nat.le_refl _,fun y z c h1 h2=>?_,fun y hy=>?_,fun y c _ h=>?_,fun _=>hd,Around.frames_deeper e0.frames,.inr ⟨rfl,rfl⟩,fun b z=>absurd z (noA b),e0.bs,e0.bsz,fun b _ _=>noA b,fun b z=>absurd z (noA b),e0.funs,e0.frf⟩,
  rfl,e0.bare,Un.kept hk,⟨_,x.toInCall.ns,fun i y v h1 h2 h3=>?_⟩,fun y c h=>⟨_,x.cell y c h⟩,e0.hok.fresh (Nat.le_refl _),fun y c h=>?_,fun p hp=>absurd (show p∈([]:List (Addr×Obj)) from hp) (by simp),e0.hok.kept hk,?_⟩
 ·exact name_of_addr x.apart (PySem.mem_of_lookup h1) (PySem.mem_of_lookup h2)
 ·have hy:scope.names.lookup y=some .cell\/scope.names.lookup y=some .free:=hy;rcases hy with hy|hy
  ·exact zfJ hy
  ·exact absurd rfl (S.nofree _ (PySem.mem_of_lookup hy))
 ·exact Nat.le_of_lt (x.above y c (PySem.mem_of_lookup h))
 ·have hi:i<vs.length:=by
   unfold start at h2;by_cases hi:i<vs.length
   ·exact hi
   ·rw[List.getElem?_append_right (by simpa using hi)] at h2;rw[List.getElem?_replicate] at h2
    split at h2<;>cases h2
  have ha:vs[i]?=some v:=by
   unfold start at h2;rw[List.getElem?_append_left (by simpa using hi),List.getElem?_map] at h2
   cases e:vs[i]? with
   |none=>rw[e] at h2;cases h2
   |some a=>rw[e] at h2;cases h2;rfl
  obtain⟨u,hu,rv⟩:=r.get ha
  have hp:ps[i]?=some y:=by
   rw[<- S.pre,List.getElem?_take_of_lt (by omega)];exact h1
  have ndP:ps.Nodup:=by rw[<- S.pre];exact S.nd.sublist (List.take_sublist _ _)
  refine⟨u,rv,?_⟩;rcases S.par y (List.mem_of_getElem? hp) with k|k
  ·exact .inl ⟨k,zeK ndP hp hu k⟩
  ·obtain⟨c,e⟩:=zfJ (n:=s.heap.objs.size+1) k;refine .inr ⟨.inl k,c,e,?_⟩;have q:=x.cell y c e;rw[zeM ndP hp hu (by show scope.names.lookup y≠_;rw[k];decide)] at q;exact q
 ·exact e0.hok.fresh (Nat.le_of_lt (x.above y c (PySem.mem_of_lookup h)))
 ·unfold start;show _=N.length;rw[List.length_append,List.length_map,List.length_replicate];omega
theorem zqn {CX:CXT}{P:Program}{w:World}{K:Frag}{mg:Str->Option Value}{base:Heap}{k:Nat}{f:Addr}{name qual:Str}{params:Arguments}{body:List Stmt}{scope:Scope}{dV kV doc pm cdv ct oc:Value}{an od:Option Addr}
  {osl:Array (Option Value)}{N ps:List Str}{sp:Sp}(lk:K.lookup f=some ⟨oc,od,.func (PySem.W.fnOf name qual params body scope dV kV doc pm an cdv ct),osl⟩)(hcd:PySem.W.codeIn K cdv qual=true)(S:FnScope N ps scope)
  (len:∀ vs H Q E,sp vs H Q E->vs.length=ps.length)
  (hbody:∀(A:Around)(outer:List Env)(s:Shared)(H:Hp)(vs:List V)(Q:VK)(E:XK),Room k (A.deeper (envOfC qual scope s.heap.objs.size f cdv))->sp vs H Q E ->
   ∃ t,PSs (cxOf CX P w K mg base N qual scope f cdv A outer s H E) body t/\t { nx:=fun _ H'=>Q .non H',rt:=Q } (start N vs) H) :
  FnOk P w K mg base CX (k+1) f (PySem.W.fnOf name qual params body scope dV kV doc pm an cdv ct) ps sp:=by
 refine⟨len,fun A outer s H args us vs Q E hr e0 hb r hsp=>?_⟩;have hl:=len _ _ _ _ hsp;have KX:K.In s.heap:=e0.mod.kin.keeps fun b o e=>(e0.bs b o e).1;have lim:s.heap.NoLimit:=e0.mod.nolimit.keeps fun b o e=>(e0.bs b o e).1
 have hkind:∀ y∈ps.zip us,scope.names.lookup y.1=some .local\/(scope.names.lookup y.1=some .cell/\((cellsFrom (s.heap.objs.size+1) scope.names []).lookup y.1).isSome=true):=fun⟨n,v⟩ hy=>by
  rcases S.par n (List.of_mem_zip hy).1 with q|q
  ·exact .inl q
  ·exact .inr ⟨q,PySem.W.cellsFrom_some _ _ _ (.inl q)⟩
 refine codeAny_call_function hr.depth (KX _ _ lk) rfl S.co S.gen rfl (PySem.W.codeRec_of KX hcd) (hb _ _ _ _ ?_);refine wpAny_newFunctionEnv_cells S.kind hkind fun env he s1 x=>?_;subst he;refine⟨lim.keeps x.toInCall.keep,codeAny_func ?_⟩;obtain⟨t,ht,hq⟩:=hbody A outer s H vs Q E (hr.deeper _) hsp;have I:Inv (cxOf CX P w K mg base N qual scope f cdv A outer s H E) [] (start N vs) H s1:=zhE S hr.hd e0 hl r x;refine wpAny_mono (ht [] s1 (start N vs) H _ I hq) (fun fl s' hs=>?_) fun e s' hs=>hs
 have fin:∀{σ':St}{H':Hp}{v:V}{u:Value},Inv (cxOf CX P w K mg base N qual scope f cdv A outer s H E) [] σ' H' s'->RelV v u->Q v H'->CE outer P w H s Q u s':=
  fun {σ' H' v u} J rv q=>⟨v,H',J.os,J.bare,J.base,J.hok,rv,q⟩
 cases fl with
 |ret u=>
  obtain⟨v,σ',H',J,rv,q⟩:=hs;exact fin J rv q
 |next=>
  obtain⟨σ',H',J,q⟩:=hs;exact fin (v:=V.non) (u:=Value.none) J rfl q
 |brk=>
  obtain⟨_,_,_,q⟩:=hs;exact False.elim q
 |cont=>
  obtain⟨_,_,_,q⟩:=hs;exact False.elim q
end L2
namespace L2
open PySem PySem.Spec PyProof.Rows
section
variable {X:Cx}{x:Str}{p pos:Pos}{e:Expr}{es:List Expr}{t:TA}{id T:String}{r:List V->Hp->VK->Prop}
def tCB (r:List V->Hp->VK->Prop)(t:TA):TE:=fun σ H Q=>t σ H fun vs H1=>r vs H1 Q
theorem zau (hc:CallR X (.builtin id) r)(hg:Gl X x)(hm:X.mg x=none)(hv:bootBuiltins x=some (.builtin id))(ha:PA X (e::es) t)(hn:x≠"__name__":=by decide)(hdb:(x==("__debug__":Str))=false:=by decide)
  (he:starEach (e::es) X.env=(false,eval e X.env)::starEach es X.env:=by rfl)(hpl:(backTo pos (starEach es X.env)).any (·.1)=false:=by rfl):PE X (.Call (.Name x p) (e::es) [] pos) (tCB r t):=by
 intro pins s σ H Q I h;refine wpAny_Call_Name_kw (zem I hg hm hv ?_ hn hdb);exact PyProof.Rows.callWith_builtin1 (thn (ha pos pins s σ H _ I h) fun us s1 ⟨vs,H1,I1,r1,q1⟩=>hc pins s1 σ H1 vs us Q I1 r1 q1) he hpl
theorem zbm (hc:CallR X (.type T) r)(hg:Gl X x)(hm:X.mg x=none)(hv:bootBuiltins x=some (.type T))(ha:PA X (e::es) t)(hn:x≠"__name__":=by decide)(hdb:(x==("__debug__":Str))=false:=by decide)
  (he:starEach (e::es) X.env=(false,eval e X.env)::starEach es X.env:=by rfl)(hpl:(backTo pos (starEach es X.env)).any (·.1)=false:=by rfl):PE X (.Call (.Name x p) (e::es) [] pos) (tCB r t):=by
 intro pins s σ H Q I h;refine wpAny_Call_Name_kw (zem I hg hm hv ?_ hn hdb);exact PyProof.Rows.callWith_type1 (thn (ha pos pins s σ H _ I h) fun us s1 ⟨vs,H1,I1,r1,q1⟩=>hc pins s1 σ H1 vs us Q I1 r1 q1) he hpl
end
end L2
namespace L2
open PySem PySem.Spec PyProof.Rows
section
variable {κ:Type} [DecidableEq κ]
def valV (kvs:List (κ×V))(k:κ):Option V:=(kvs.find? fun kv=>decide (kv.1=k)).map (·.2)
def putK (kvs:List (κ×V))(k:κ)(v:V):List (κ×V):=
 if (kvs.any fun kv=>decide (kv.1=k))=true then kvs.map (fun kv=>if kv.1=k then (kv.1,v) else kv) else kvs++[(k,v)]
theorem zbM {p:κ×V}{r:List (κ×V)}{k:κ}(e:p.1=k):valV (p::r) k=some p.2:=by simp [valV,List.find?_cons,e]
theorem zbN {p:κ×V}{r:List (κ×V)}{k:κ}(e:¬ p.1=k):valV (p::r) k=valV r k:=by simp [valV,List.find?_cons,e]
theorem zbv (k:κ):∀ kvs:List (κ×V),(kvs.any fun kv=>decide (kv.1=k))=(valV kvs k).isSome
 |[]=>rfl
 |p::r=>by
  rw[List.any_cons];by_cases e:p.1=k
  ·simp only[zbM e,decide_eq_true e,Bool.true_or,Option.isSome_some]
  ·rw[zbN e,decide_eq_false e,Bool.false_or];exact zbv k r
theorem zbf (kvs:List (κ×V))(k:κ)(v:V):(putK kvs k v).length<=kvs.length+1:=by
 unfold putK
 split
 ·rw[List.length_map];omega
 ·rw[List.length_append,List.length_cons,List.length_nil];omega
theorem ziO {kvs:List (κ×V)}{k:κ}(v:V)(h:valV kvs k=none):putK kvs k v=kvs++[(k,v)]:=by
 unfold putK;rw[zbv,h];exact if_neg (by decide)
theorem RelO.isSome_eq {o:Option V}{u:Option Value}(r:RelO o u):o.isSome=u.isSome:=by
 cases o with
 |none=>cases u with
  |none=>rfl
  |some _=>exact(show False from r).elim
 |some _=>cases u with
  |none=>exact(show False from r).elim
  |some _=>rfl
theorem KV.val {kvs:List (κ×V)}{vs:List (κ×Value)}(r:KV kvs vs)(k:κ):RelO (valV kvs k) (valueAt vs k):=by
 unfold KV at r
 induction r with
 |nil=>exact True.intro
 |@cons p q ps qs h t ih=>
  obtain⟨h1,h2⟩:=h;by_cases e:p.1=k
  ·have e':q.1=k:=h1.symm.trans e;have b:valueAt (q::qs) k=some q.2:=by simp [valueAt,List.find?_cons,e']
   rw[zbM e,b];exact h2
  ·have e':¬ q.1=k:=fun z=>e (h1.trans z);have b:valueAt (q::qs) k=valueAt qs k:=by simp [valueAt,List.find?_cons,e']
   rw[zbN e,b];exact ih
theorem KV.any {kvs:List (κ×V)}{vs:List (κ×Value)}(r:KV kvs vs)(k:κ):(kvs.any fun kv=>decide (kv.1=k))=vs.any fun kv=>decide (kv.1=k):=by
 unfold KV at r
 induction r with
 |nil=>rfl
 |cons h t ih=>rw[List.any_cons,List.any_cons,ih,h.1]
theorem KV.repl {kvs:List (κ×V)}{vs:List (κ×Value)}(r:KV kvs vs)(k:κ){y:V}{u:Value}(ry:RelV y u) :
  KV (kvs.map fun kv=>if kv.1=k then (kv.1,y) else kv) (vs.map fun kv=>if kv.1=k then (kv.1,u) else kv):=by
 unfold KV at r ⊢
 induction r with
 |nil=>exact .nil
 |@cons p q ps qs h t ih=>
  rw[List.map_cons,List.map_cons];refine .cons ?_ ih;obtain⟨h1,h2⟩:=h;by_cases e:p.1=k
  ·rw[if_pos e,if_pos (h1.symm.trans e)];exact⟨h1,ry⟩
  ·rw[if_neg e,if_neg (fun z=>e (h1.trans z))];exact⟨h1,h2⟩
theorem KV.put {kvs:List (κ×V)}{vs:List (κ×Value)}(r:KV kvs vs)(k:κ){y:V}{u:Value}(ry:RelV y u):KV (putK kvs k y) (stored vs k u):=by
 unfold putK stored;rw[r.any k];by_cases e:(vs.any fun kv=>decide (kv.1=k))=true
 ·rw[if_pos e,if_pos e];exact r.repl k ry
 ·rw[if_neg e,if_neg e];exact Paired.snoc r ⟨rfl,ry⟩
theorem KV.length {kvs:List (κ×V)}{vs:List (κ×Value)}(r:KV kvs vs):kvs.length=vs.length:=Paired.length r
end
theorem zfg {P:Program}{w:World}{k:Key}{u:Value}(r:RelV (kV k) u):(mixKind P w).is k u=true:=by
 cases k with
 |inl i=>obtain⟨t,e⟩:=(show ∃ t,u=Value.int i t from r);subst e;exact zeX P w i t
 |inr x=>obtain⟨t,e⟩:=(show ∃ t,u=Value.str x t from r);subst e;exact zeW P w x t
theorem zes {P:Program}{w:World}:∀{ks:List Key}{us:List Value},Vals (ks.map kV) us->ItemsAre (mixKind P w) ks us
 |[],_,r=>by rw[List.map_nil] at r;cases r;exact .nil
 |k::ks,_,r=>by
  rw[List.map_cons] at r
  cases r with
  |cons h t=>exact .cons (zfg h) (zes t)
abbrev KT (H:Hp):List (List Key×V)->List (List Key×Addr×Value)->Prop:=Paired fun p q=>p.1=q.1/\H q.2.1=some (.tup (p.1.map kV))/\RelV p.2 q.2.2
theorem KT.val {H:Hp}{kvs:List (List Key×V)}{xs:List (List Key×Addr×Value)}(r:KT H kvs xs)(k:List Key):RelO (valV kvs k) ((atKey xs k).map (·.2)):=by
 induction r with
 |nil=>exact True.intro
 |@cons p q ps qs h t ih=>
  obtain⟨h1,_,h2⟩:=h;by_cases e:p.1=k
  ·have e':q.1=k:=h1.symm.trans e;have b:atKey (q::qs) k=some q.2:=by simp [atKey,List.find?_cons,e']
   rw[zbM e,b];exact h2
  ·have e':¬ q.1=k:=fun z=>e (h1.trans z);have b:atKey (q::qs) k=atKey qs k:=by simp [atKey,List.find?_cons,e']
   rw[zbN e,b];exact ih
theorem KT.repl {H:Hp}{kvs:List (List Key×V)}{xs:List (List Key×Addr×Value)}(r:KT H kvs xs)(k:List Key){y:V}{u:Value}(ry:RelV y u) :
  KT H (kvs.map fun kv=>if kv.1=k then (kv.1,y) else kv) (xs.map (putAt k u)):=by
 induction r with
 |nil=>exact .nil
 |@cons p q ps qs h t ih=>
  rw[List.map_cons,List.map_cons];refine .cons ?_ ih;obtain⟨h1,h2,h3⟩:=h;unfold putAt;by_cases e:p.1=k
  ·rw[if_pos e,if_pos (h1.symm.trans e)];exact⟨h1,h2,ry⟩
  ·rw[if_neg e,if_neg (fun z=>e (h1.trans z))];exact⟨h1,h2,h3⟩
theorem KT.put {H:Hp}{kvs:List (List Key×V)}{xs:List (List Key×Addr×Value)}(r:KT H kvs xs)(k:List Key){b:Addr}{y:V}{u:Value}(hb:H b=some (.tup (k.map kV)))(ry:RelV y u) :
  KT H (putK kvs k y) (storedH xs k b u):=by
 have e:(kvs.any fun kv=>decide (kv.1=k))=(atKey xs k).isSome:=by
  rw[zbv,(r.val k).isSome_eq,Option.isSome_map]
 unfold putK storedH;rw[e];by_cases q:(atKey xs k).isSome=true
 ·rw[if_pos q,if_pos q];exact r.repl k ry
 ·rw[if_neg q,if_neg q];exact Paired.snoc r ⟨rfl,hb,ry⟩
theorem KT.keeps {H H':Hp}{kvs:List (List Key×V)}{xs:List (List Key×Addr×Value)}(r:KT H kvs xs)(ht:∀ b ys,H b=some (.tup ys)->H' b=some (.tup ys)):KT H' kvs xs:=
 Paired.mapP r fun _ _ z=>⟨z.1,ht _ _ z.2.1,z.2.2⟩
section
variable {P:Program}{w:World}{H:Hp}{h:Heap}{a:Addr}
theorem zmZ {u:HO}(ok:HOk P w H h)(e:Rd H a u):ObjOk P w H h a u:=e.ok ok
theorem zgg {kvs:List (Key×V)}(ok:HOk P w H h)(e:Rd H a (.dK kvs)):kvs.length<=sizeLine/\(a==sysModules)=false/\∃ vs,KV kvs vs/\h.DictOf (mixKind P w) a vs:=
 show ObjOk P w H h a (.dK kvs) from zmZ ok e
theorem zgh {kvs:List (Key×V)}(ok:HOk P w H h)(e:H a=some (.dK kvs)):kvs.length<=sizeLine/\(a==sysModules)=false/\∃ vs,KV kvs vs/\h.DictOf (mixKind P w) a vs:=zgg ok (.inl e)
theorem zen {ks:List Key}(ok:HOk P w H h)(e:H a=some (.tup (ks.map kV))):(tupleKind (mixKind P w)).is h ks a:=by
 obtain⟨_,its,r,o,h1,h2,n,h3⟩:=(show ObjOk P w H h a (.tup (ks.map kV)) from ok a _ e);exact⟨o,its.toArray,n,h1,h2,h3,by simpa using zes r⟩
theorem zhT {kvs:List (List Key×V)}(ok:HOk P w H h)(e:Rd H a (.dT kvs)):kvs.length<=sizeLine/\(a==sysModules)=false /\
  ∃ xs,KT H kvs xs/\h.DictOfH (tupleKind (mixKind P w)) a xs:=by
 obtain⟨z,y,xs,r,o,es,ep,h1,h2,h3,h4,h5⟩:=(show ObjOk P w H h a (.dT kvs) from zmZ ok e);refine⟨z,y,xs,r,o,es,ep,h1,h2,h3,h4,fun x hx=>?_,h5⟩
 have all:∀{l:List (List Key×V)}{m:List (List Key×Addr×Value)},KT H l m->∀ x∈m,(tupleKind (mixKind P w)).is h x.1 x.2.1:=by
  intro l m q
  induction q with
  |nil=>intro x hx;exact nomatch hx
  |@cons p q ps qs hq t ih=>
   intro x hx;rcases List.mem_cons.mp hx with e|hx
   ·subst e;exact zen ok (by rw[<- hq.1];exact hq.2.1)
   ·exact ih x hx
 exact all r x hx
theorem zqu {kvs:List (List Key×V)}(ok:HOk P w H h)(e:H a=some (.dT kvs)):kvs.length<=sizeLine/\(a==sysModules)=false /\
  ∃ xs,KT H kvs xs/\h.DictOfH (tupleKind (mixKind P w)) a xs:=zhT ok (.inl e)
end
def DGet (H:Hp)(a:Addr)(y:V)(r:Option V):Prop:=
 (∃ kvs k,Rd H a (.dK kvs)/\y=kV k/\r=valV kvs k)\/∃ kvs k b,Rd H a (.dT kvs)/\y=.ref b/\H b=some (.tup (k.map kV))/\r=valV kvs k
def DPut (H:Hp)(a:Addr)(y v:V)(H':Hp):Prop:=
 (∃ kvs k,H a=some (.dK kvs)/\y=kV k/\kvs.length<sizeLine/\H'=upd H a (.dK (putK kvs k v))) \/
 ∃ kvs k b,H a=some (.dT kvs)/\y=.ref b/\H b=some (.tup (k.map kV))/\kvs.length<sizeLine/\H'=upd H a (.dT (putK kvs k v))
theorem DGet.k {H:Hp}{a:Addr}{kvs:List (Key×V)}{k:Key}(e:H a=some (.dK kvs)):DGet H a (kV k) (valV kvs k):=.inl ⟨kvs,k,.inl e,rfl,rfl⟩
theorem DPut.k {H:Hp}{a:Addr}{kvs:List (Key×V)}{k:Key}{v:V}(e:H a=some (.dK kvs))(hl:kvs.length<sizeLine):DPut H a (kV k) v (upd H a (.dK (putK kvs k v))):=.inl ⟨kvs,k,e,rfl,hl,rfl⟩
section
variable {X:Cx}{pins:List (Addr×Obj)}{σ:St}{H:Hp}{s:Shared}{a:Addr}{y v:V}{u r:Value}{o:Option V}{A:Around}{E:Value->Shared->Prop}
theorem Inv.big (I:Inv X pins σ H s):sysModules<s.heap.objs.size:=by
 have h:mainGlobals<s.heap.objs.size:=(I.mod.glob.keeps I.bk).lt;exact Nat.lt_trans (by decide) h
theorem zeD {Q:Value->Shared->Prop}(hu:A.units+1<cLine)(I:Inv X pins σ H s)(g:DGet H a y (some v))(ry:RelV y u)(h:∀ w' s',Inv X pins σ H s'->RelV v w'->Q w' s') :
  wpAny (model X.prog X.w) A (getItem (.ref a) u) Q E s:=by
 rcases g with ⟨kvs,k,e,ey,l⟩|⟨kvs,k,b,e,ey,eb,l⟩
 ·subst ey;obtain⟨z,hd,vs,rel,dd⟩:=zgg I.hok e;obtain⟨w',hw,rw'⟩:=RelO.some_of (v:=v) (o:=valueAt vs k) (by rw[l];exact rel.val k);exact wpAny_getItem_of (zfg ry) dd.mapOf hw (h w' _ (I.tok _) rw')
 ·subst ey;cases (show u=Value.ref b from ry);obtain⟨z,hd,xs,rel,dd⟩:=zhT I.hok e;obtain⟨w',hw,rw'⟩:=RelO.some_of (v:=v) (o:=(atKey xs k).map (·.2)) (by rw[l];exact rel.val k);obtain⟨p,hp,hp2⟩:=Option.map_eq_some_iff.mp hw;refine wpAny_getItem_heap (tupleKind_room_in1 hu) (zen I.hok eb) dd hp ?_;rw[hp2];exact h w' _ (I.tok _) rw'
theorem d_in {Q:Value->Shared->Prop}(hu:A.units+1<cLine)(I:Inv X pins σ H s)(g:DGet H a y o)(ry:RelV y u)(h:∀ s',Inv X pins σ H s'->Q (.bool o.isSome) s') :
  wpAny (model X.prog X.w) A (compareOp .In u (.ref a)) Q E s:=by
 rcases g with ⟨kvs,k,e,ey,l⟩|⟨kvs,k,b,e,ey,eb,l⟩
 ·subst ey;obtain⟨z,hd,vs,rel,dd⟩:=zgg I.hok e;refine wpAny_in_of (zfg ry) hd dd.mapOf ?_;rw[<- (rel.val k).isSome_eq,<- l];exact h _ (I.tok _)
 ·subst ey;cases (show u=Value.ref b from ry);obtain⟨z,hd,xs,rel,dd⟩:=zhT I.hok e;refine wpAny_in_heap (tupleKind_room_in1 hu) (zen I.hok eb) hd dd ?_;have q:=(rel.val k).isSome_eq;rw[Option.isSome_map] at q;rw[<- q,<- l];exact h _ (I.tok _)
theorem zlZ {Q:Value->Shared->Prop}(hu:A.units+1<cLine)(I:Inv X pins σ H s)(g:DGet H a y o)(ry:RelV y u)(h:∀ s',Inv X pins σ H s'->Q (.bool (!o.isSome)) s') :
  wpAny (model X.prog X.w) A (compareOp .NotIn u (.ref a)) Q E s:=by
 rcases g with ⟨kvs,k,e,ey,l⟩|⟨kvs,k,b,e,ey,eb,l⟩
 ·subst ey;obtain⟨z,hd,vs,rel,dd⟩:=zgg I.hok e;refine wpAny_notIn_of (zfg ry) hd dd.mapOf ?_;rw[<- (rel.val k).isSome_eq,<- l];exact h _ (I.tok _)
 ·subst ey;cases (show u=Value.ref b from ry);obtain⟨z,hd,xs,rel,dd⟩:=zhT I.hok e;refine wpAny_notIn_heap (tupleKind_room_in1 hu) (zen I.hok eb) hd dd ?_;have q:=(rel.val k).isSome_eq;rw[Option.isSome_map] at q;rw[<- q,<- l];exact h _ (I.tok _)
theorem zdb {h':Heap}{t':Nat}{ob:HO}(I:Inv X pins σ H s)(mu:Mut (H a))(hs:Heap.SameBut a s.heap h')(he:∃ q,h'.get? a=some q)(new:ObjOk X.prog X.w (upd H a ob) h' a ob) :
  Inv X pins σ (upd H a ob) { s with heap:=h',toks:=t' }:=
 I.write (x:=a) (e:=a) mu (.inl rfl) (fun b q hb z=>(hs.2 b hb).trans z) he new
theorem zdy {P:Program}{w:World}{H':Hp}{h':Heap}{kvs:List (Key×V)}{vs:List (Key×Value)}(z:kvs.length<=sizeLine)(hd:(a==sysModules)=false)(rel:KV kvs vs)(dd:h'.DictOf (mixKind P w) a vs) :
  ObjOk P w H' h' a (.dK kvs):=⟨z,hd,vs,rel,dd⟩
theorem zhX {H':Hp}{Q:Unit->Shared->Prop}(hu:A.units+1<cLine)(I:Inv X pins σ H s)(g:DPut H a y v H')(ry:RelV y u)(rv:RelV v r)(h:∀ s',Inv X pins σ H' s'->Q () s') :
  wpAny (model X.prog X.w) A (setItem (.ref a) u r) Q E s:=by
 rcases g with ⟨kvs,k,e,ey,l,eH⟩|⟨kvs,k,b,e,ey,eb,l,eH⟩
 ·subst ey eH;obtain⟨z,hd,vs,rel,dd⟩:=zgh I.hok e;have hz:vs.length<=sizeLine:=by rw[<- rel.length];exact z
  have hl:(putK kvs k v).length<=sizeLine:=by have:=zbf kvs k v;omega
  refine wpAny_setItem_pairs (hsz:=hz) (zfg ry) dd fun h' dd' hs=>h _ ?_;have he:∃ q,h'.get? a=some q:=let ⟨q,_,_,hq,_⟩:=dd';⟨q,hq⟩
  exact zdb I (by rw[e];exact True.intro) hs he (zdy hl hd (rel.put k rv) dd')
 ·subst ey eH;cases (show u=Value.ref b from ry);obtain⟨z,hd,xs,rel,dd⟩:=zqu I.hok e;have hz:xs.length<=sizeLine:=by rw[<- Paired.length rel];exact z
  have hl:(putK kvs k v).length<=sizeLine:=by have:=zbf kvs k v;omega
  refine wpAny_setItem_heap (hsz:=hz) (tupleKind_room_in1 hu) (zen I.hok eb) dd fun h' dd' hs=>h _ ?_;obtain⟨q,es,ep,hq,h2,h3,h4,_,h5⟩:=dd';refine zdb I (by rw[e];exact True.intro) hs ⟨q,hq⟩ ⟨hl,hd,_,(rel.put k eb rv).keeps fun c ys ec=>?_,q,es,ep,hq,h2,h3,h4,h5⟩;rw[zad (zlj ec e (fun z=>nomatch z))];exact ec
end
section
variable {X:Cx}{pins:List (Addr×Obj)}{σ:St}{H:Hp}{s:Shared}{a:Addr}{kvs:List (Key×V)}{k:Key}{u:Value}{A:Around}{E:Value->Shared->Prop}
end
def NoSl (i:Expr):Prop:=∀ ov iv,subscripted i false ov iv=operate [ov,iv] (getItem ov iv)
theorem zkO {prog:Program}{w:World}{A:Around}{E:Value->Shared->Prop}{s:Shared}{env:Env}{value slice:Expr}{pos:Pos}{T id:String}{Q:Value->Shared->Prop}
  (hl:typeLookup (.type T) "__getitem__"=pure (some (.builtin id)))(hs:NoSl slice)
  (h:wpAny (model prog w) A (eval value env) (fun o s₁=>wpAny (model prog w) A (eval slice env) (fun i s₂=>s₂.TypeIs o T/\wpAny (model prog w) A (getItem o i) Q E s₂) E s₁) E s) :
  wpAny (model prog w) A (eval (.Subscript value slice pos) env) Q E s:=by
 refine Subscript_ (wpAny_mono h (fun o s₁ h₁=>wpAny_mono h₁ (fun i s₂ h₂=>?_) fun _ _ x=>x) fun _ _ x=>x);obtain⟨hT,h₂⟩:=h₂;unfold subscriptTail;refine wpAny_bind ?_;rw[getitemInPython_of_ne hT.not_modules];refine wpAny_bind (wpAny_specialOf hT hl ?_)
 have fin:wpAny (model prog w) A (subscripted slice false o i) (fun r s₃=>wpAny (model prog w) A (letTemporaryGo value o r >>= fun _=>pure r) Q E s₃) E s₂:=by
  rw[hs o i];exact wpAny_operating (wpAny_mono h₂ (fun r s₃ h₃=>wpAny_bind (wpAny_letTemporaryGo (wpAny_pure h₃))) fun _ _ x=>x)
 first
  |exact wpAny_pure (wpAny_bind fin)
  |exact wpAny_bind (wpAny_pure (wpAny_bind fin))
  |exact wpAny_bind fin
theorem zda {X:Cx}{pins:List (Addr×Obj)}{σ:St}{H:Hp}{s:Shared}{a:Addr}{y:V}{o:Option V}(I:Inv X pins σ H s)(g:DGet H a y o):s.TypeIs (.ref a) "dict":=by
 rcases g with ⟨kvs,k,e,_,_⟩|⟨kvs,k,b,e,_,_,_⟩
 ·obtain⟨_,_,vs,_,dd⟩:=zgg I.hok e;exact dd.typeIs
 ·obtain⟨_,_,xs,_,dd⟩:=zhT I.hok e;exact dd.typeIs
def tDGet (td ty:TE):TE:=fun σ H Q=>td σ H fun x H1=>ty σ H1 fun y H2=>∃ a v,x=.ref a/\DGet H2 a y (some v)/\Q v H2
def sDPut (td ty tv:TE):TS:=fun D σ H=>tv σ H fun v H1=>td σ H1 fun x H2=>ty σ H2 fun y H3=>∃ a H4,x=.ref a/\DPut H3 a y v H4/\D.nx σ H4
section
variable {X:Cx}{o i e value:Expr}{pos pos' tpos:Pos}{td ty tv:TE}
theorem zay (hu:X.A.units+1<cLine)(ho:PE X o td)(hi:PE X i ty)(hs:NoSl i):PE X (.Subscript o i pos) (tDGet td ty):=by
 intro pins s σ H Q I h;refine zkO PySem.F.slot_dict_getitem.lookup hs (thn (ho pins s σ H _ I h) fun u s1 ⟨x,H1,I1,rx,q1⟩=>thn (hi pins s1 σ H1 _ I1 q1) fun iv s2 ⟨y,H2,I2,ry,a,v,ex,g,q2⟩=>?_);subst ex;obtain rfl:u=Value.ref a:=rx;exact⟨zda I2 g,zeD hu I2 g ry fun w' s3 I3 rw'=>⟨v,H2,I3,rw',q2⟩⟩
theorem zbd (hu:X.A.units+1<cLine)(ho:PE X o td)(hi:PE X i ty)(hv:PE X value tv)(hs:swapsWith value (some (.Subscript o i pos')) pos.line X.env=pure false) :
  PS X (.Assign [.Subscript o i pos'] value pos) (sDPut td ty tv):=by
 intro pins s σ H D I h;refine wpAny_Assign_Subscript (thn (hv pins s σ H _ I h) fun r s1 ⟨v,H1,I1,rv,q1⟩=>thn (ho pins s1 σ H1 _ I1 q1) fun u s2 ⟨x,H2,I2,rx,q2⟩=>thn (hi pins s2 σ H2 _ I2 q2) fun iv s3 ⟨y,H3,I3,ry,a,H4,ex,g,q3⟩=>?_) hs;subst ex;obtain rfl:u=Value.ref a:=rx;exact zhX hu I3 g ry rv fun s4 I4=>⟨σ,H4,I4,q3⟩
end
theorem zfG {P:Program}{w:World}{H:Hp}(h:Heap)(hb:sysModules<h.objs.size):ObjOk P w H (h.push { cls:=.type "dict",data:=.dict #[] }) h.objs.size (.dK []):=
 ⟨Nat.zero_le _,beq_eq_false_iff_ne.mpr (Ne.symm (Nat.ne_of_lt hb)),[],.nil,Heap.DictOf.new h⟩
def tDNewK:TE:=fun _ H Q=>∀ p,H p=none->Q (.ref p) (upd H p (.dK []))
section
variable {X:Cx}{pos:Pos}
theorem pe_dnewK:PE X (.Dict [] [] pos) tDNewK:=fun pins s σ H Q I h=>
 wpAny_Dict_empty ⟨.ref s.heap.objs.size,_,I.laid (a:=s.heap.objs.size) (o:=.dK []) (t':=s.toks) (fun _ _ q=>Heap.get?_push_of_some _ q) (Nat.le_refl _) (zfG s.heap I.big),rfl,h _ (I.hok.fresh (Nat.le_refl _))⟩
end
def tPairs:List (TE×TE)->St->Hp->(List (V×V)->Hp->Prop)->Prop
 |[],_,H,Q=>Q [] H
 |(tk,tv)::r,σ,H,Q=>tk σ H fun x H1=>tv σ H1 fun y H2=>tPairs r σ H2 fun ps H3=>Q ((x,y)::ps) H3
abbrev VV:List (V×V)->List (Value×Value)->Prop:=Paired fun p q=>RelV p.1 q.1/\RelV p.2 q.2
def PPs (X:Cx)(pos:Pos)(keys:List (Option Expr))(values:List Expr)(trs:List (TE×TE)):Prop:=
 ∀(pins:List (Addr×Obj))(s:Shared)(σ:St)(H:Hp)(Q:List (V×V)->Hp->Prop),Inv X pins σ H s->tPairs trs σ H Q ->
  wpAny (model X.prog X.w) X.A (evalPairs (pairTrees keys values X.env pos)) (fun vs s'=>∃ ps H',Inv X pins σ H' s'/\VV ps vs/\Q ps H') X.xe s
theorem zeT {X:Cx}{pos:Pos}:PPs X pos [] [] []:=fun pins s σ H Q I h=>pairTrees_nil_walk ⟨[],H,I,.nil,h⟩
theorem zaE {X:Cx}{pos:Pos}{k v:Expr}{ks:List (Option Expr)}{vs:List Expr}{tk tv:TE}{trs:List (TE×TE)}(hk:PE X k tk)(hv:PE X v tv)(hr:PPs X pos ks vs trs) :
  PPs X pos (some k::ks) (v::vs) ((tk,tv)::trs):=fun pins s σ H Q I h=>
 pairTrees_cons_walk (thn (hk pins s σ H _ I h) fun u s1 ⟨x,H1,I1,rx,q1⟩=>thn (hv pins s1 σ H1 _ I1 q1) fun w2 s2 ⟨y,H2,I2,ry,q2⟩=>
  thn (hr pins s2 σ H2 _ I2 q2) fun ws s3 ⟨ps,H3,I3,rel,q3⟩=>⟨(x,y)::ps,H3,I3,.cons ⟨rx,ry⟩ rel,q3⟩)
def mergeK (kvs more:List (Key×V)):List (Key×V):=more.foldl (fun acc kv=>putK acc kv.1 kv.2) kvs
theorem KV.merge:∀{more:List (Key×V)}{rs:List (Key×Value)}{kvs:List (Key×V)}{vs:List (Key×Value)},KV more rs->KV kvs vs->KV (mergeK kvs more) (merged vs rs):=by
 intro more rs kvs vs r;unfold KV at r
 induction r generalizing kvs vs with
 |nil=>intro q;exact q
 |@cons p q ps qs h t ih=>
  intro r0
  have e:KV (putK kvs p.1 p.2) (stored vs q.1 q.2):=by
   have:=r0.put p.1 h.2;rw[<- h.1];exact this
  exact ih e
theorem zaK:∀(more kvs:List (Key×V)),(mergeK kvs more).length<=kvs.length+more.length
 |[],kvs=>by show kvs.length<=kvs.length+0;omega
 |p::r,kvs=>by
  have h1:=zaK r (putK kvs p.1 p.2);have h2:=zbf kvs p.1 p.2;show(mergeK (putK kvs p.1 p.2) r).length<=_;rw[List.length_cons];omega
theorem zdB {P:Program}{w:World}:∀{kvs:List (Key×V)}{ws:List (Value×Value)},VV (kvs.map fun kv=>(kV kv.1,kv.2)) ws->∃ rs,Carries (mixKind P w) ws rs/\KV kvs rs
 |[],_,r=>by rw[List.map_nil] at r;cases r;exact⟨[],True.intro,.nil⟩
 |p::kvs,_,r=>by
  rw[List.map_cons] at r
  cases r with
  |@cons a b as bs h t=>
   obtain⟨rs,c,q⟩:=zdB (P:=P) (w:=w) t;obtain⟨b1,b2⟩:=b;exact⟨(p.1,b2)::rs,⟨zfg h.1,rfl,c⟩,.cons ⟨rfl,h.2⟩ q⟩
def tDisp (trs:List (TE×TE)):TE:=fun σ H Q=>∀ p,H p=none->tPairs trs σ (upd H p (.dK [])) fun ps H2=>H2 p=some (.dK [])/\∃ kvs:List (Key×V),ps=kvs.map (fun kv=>(kV kv.1,kv.2))/\kvs.length<=15/\Q (.ref p) (upd H2 p (.dK (mergeK [] kvs)))
theorem zeV {X:Cx}{pos:Pos}{keys:List (Option Expr)}{values:List Expr}{trs:List (TE×TE)}(h:PPs X pos keys values trs)(hall:keys.all (·.isSome)=true)(hl:keys.length=values.length)(h0:keys≠[])
  (h15:keys.length<=15):PE X (.Dict keys values pos) (tDisp trs):=by
 intro pins s σ H Q I q;have hn:=I.hok.fresh (Nat.le_refl s.heap.objs.size);have I1:=I.laid (a:=s.heap.objs.size) (o:=.dK []) (h':=s.heap.push { cls:=.type "dict",data:=.dict #[] }) (t':=s.toks) (fun _ _ q=>Heap.get?_push_of_some _ q) (Nat.le_refl _) (zfG s.heap I.big);refine wpAny_Dict_walk (knd:=mixKind X.prog X.w) hall hl h0 h15 (thn (h pins _ σ _ _ I1 (q _ hn)) fun ws s2 ⟨ps,H2,I2,rel,e,kvs,ep,lk,q2⟩=>?_);subst ep;obtain⟨rs,c,rk⟩:=zdB (P:=X.prog) (w:=X.w) rel;obtain⟨z,hd,vs0,r0,dd⟩:=zgh I2.hok e;cases r0;refine⟨rs,c,dd,fun h' dd' hs=>⟨.ref s.heap.objs.size,_,?_,rfl,q2⟩⟩
 have hz:(mergeK [] kvs).length<=sizeLine:=by
  have h1:=zaK kvs [];rw[List.length_nil] at h1;rw[sizeLine_eq];omega
 have he:∃ q,h'.get? s.heap.objs.size=some q:=let ⟨q,_,_,hq,_⟩:=dd';⟨q,hq⟩
 exact zdb I2 (by rw[e];exact True.intro) hs he (zdy hz hd (rk.merge .nil) dd')
section
variable {X:Cx}{pins:List (Addr×Obj)}{σ:St}{H:Hp}{s:Shared}{a:Addr}{y d:V}{u r:Value}{o:Option V}{A:Around}{E:Value->Shared->Prop}
end
section
variable {X:Cx}{o e f:Expr}{apos cpos:Pos}{td ty tx:TE}
end
section
variable {X:Cx}{pins:List (Addr×Obj)}{σ:St}{H:Hp}{s:Shared}{a:Addr}{kvs:List (Key×V)}{A:Around}{E:Value->Shared->Prop}
theorem zjz {Q:Value->Shared->Prop}(I:Inv X pins σ H s)(e:Rd H a (.dK kvs))(h:∀ p s',H p=none->Inv X pins σ (upd H p (.dK kvs)) s'->Q (.ref p) s'):wpAny (model X.prog X.w) A (call (.type "dict") [.ref a]) Q E s:=by
 obtain⟨z,hd,vs,rel,dd⟩:=zgg I.hok e;refine kt_call_dict hd dd (by rw[<- rel.length];exact z) fun h' dd' hs=>?_;refine h _ _ (I.hok.fresh (Nat.le_refl _)) (I.laid (a:=s.heap.objs.size) (o:=.dK kvs) (t':=s.toks) (fun b q hq=>?_) (Nat.le_refl _) (zdy z (beq_eq_false_iff_ne.mpr (Ne.symm (Nat.ne_of_lt I.big))) rel dd'));exact(hs.2 b (Nat.ne_of_lt (Heap.lt_size hq))).trans (Heap.get?_push_of_some _ hq)
end
section
variable {X:Cx}{pins:List (Addr×Obj)}{σ:St}{H:Hp}{s:Shared}{a:Addr}{y:V}{u:Value}{A:Around}{E:Value->Shared->Prop}
end
end L2
namespace HT
open PySem PyProof.Rows
section
open PySem.SeqAt
open PySem.AutoSeq1 (wpAny_loadPart')
open PySem.MeetsSeq PySem.MeetsSeq2 PySem.MeetsSeq3
end
section
variable {prog:Program}{w:World}{A:Around}{E:Value->Shared->Prop}{s:Shared}
theorem cat_tup {t b:Addr}{vs ws:List Value}{Q:Value->Shared->Prop}(ht:IsTup s.heap t vs.toArray)(hb:IsTup s.heap b ws.toArray)(hv:vs≠[])
  (h1:ws=[]->Q (.ref t) s)(h2:ws≠[]->Q (.ref s.heap.objs.size) { s with heap:=s.heap.push { cls:=.type "tuple",data:=.seq (vs++ws).toArray } })
  (hsz:vs.length+ws.length<=sizeLine):wpAny (model prog w) A (binaryOp .Add (.ref t) (.ref b)) Q E s:=by
 obtain⟨⟨cls,dd,data,sl⟩,ho,hc,n,hd⟩:=id ht;obtain⟨⟨cls2,dd2,data2,sl2⟩,ho2,hc2,n2,hd2⟩:=id hb;simp only at hc hd hc2 hd2;subst hc hd hc2 hd2;have e:vs.toArray++ws.toArray=(vs++ws).toArray:=by simp
 by_cases hw:ws=[]
 ·exact concat_meets ⟨_,ho,rfl⟩ ⟨_,ho2,rfl⟩ noFill_tuple_add seq_tuple_add PySem.F.slot_tuple_add PySem.F.entry_tuple_add (PySem.F.args_tuple_add_2 _ _)
   (tuple_addW1 t b vs.toArray ws.toArray n n2 dd dd2 sl sl2 (by simpa using hv) (by simp [hw])) ⟨ho,ho2,h1 hw⟩
 ·refine concat_meets ⟨_,ho,rfl⟩ ⟨_,ho2,rfl⟩ noFill_tuple_add seq_tuple_add PySem.F.slot_tuple_add PySem.F.entry_tuple_add (PySem.F.args_tuple_add_2 _ _)
   (tuple_addW2 t b vs.toArray ws.toArray n n2 dd dd2 sl sl2 (by simpa using hv) (by simpa using hw) (by rw[List.size_toArray,List.size_toArray];exact hsz)) ⟨ho,ho2,?_⟩
  rw[e];exact h2 hw
def sIx (n d:Nat):Option Int->Nat
 |none=>d
 |some v=>if v<0 then (v+(n:Int)).toNat else min v.toNat n
theorem sIx_none (n d:Nat):sIx n d none=d:=rfl
theorem zmU (n d:Nat)(hd:d<=n)(o:Option Int):sIx n d o<=n:=by
 cases o with
 |none=>exact hd
 |some v=>
  show(if v<0 then (v+(n:Int)).toNat else min v.toNat n)<=n;by_cases hv:v<0
  ·rw[if_pos hv];omega
  ·rw[if_neg hv];exact Nat.min_le_right _ _
theorem zih (v:Int)(n d:Nat):(if v<0 then max (v+(n:Int)) 0 else min v (n:Int))=((sIx n d (some v):Nat):Int):=by
 show(if v<0 then max (v+(n:Int)) 0 else min v (n:Int))=(((if v<0 then (v+(n:Int)).toNat else min v.toNat n):Nat):Int);by_cases hv:v<0
 ·simp only[if_pos hv];omega
 ·simp only[if_neg hv];omega
theorem zgm (lo hi:Option Int)(n:Nat):Builtin.Slice.sliceAdjust lo hi 1 (n:Int)=(((sIx n 0 lo:Nat):Int),((sIx n n hi:Nat):Int)):=by
 have h1:¬ ((1:Int)<0):=by omega
 unfold Builtin.Slice.sliceAdjust;simp only[h1,if_false];refine Prod.ext ?_ ?_
 ·cases lo with
  |none=>rfl
  |some v=>exact zih v n 0
 ·cases hi with
  |none=>rfl
  |some v=>exact zih v n n
theorem zfS (i j:Nat):Builtin.Slice.slicePlaces (i:Int) (j:Int) 1=j-i:=by
 unfold Builtin.Slice.slicePlaces;have h1:(1:Int) > 0:=by omega
 simp only[h1,if_true,Int.ediv_one]
 split<;>omega
theorem zds {v:Value}{o:Option Int}{Q:Option Int->Shared->Prop}(p:IsPart v o)(h:Q o s):wpAny (model prog w) A (Builtin.Slice.slicePartIndex v) Q E s:=by
 cases p with
 |none=>exact slicePart_none h
 |int i t=>exact slicePart_int h
theorem sliceApplied_gen {sl:Addr}{vl vu:Value}{lo hi:Option Int}{n:Nat}{Q:Int×Int×Nat->Shared->Prop}(hs:s.heap.IsSliceOf sl vl vu .none)(pl:IsPart vl lo)(pu:IsPart vu hi)
  (h:Q (((sIx n 0 lo:Nat):Int),1,sIx n n hi-sIx n 0 lo) s):wpAny (model prog w) A (Builtin.Slice.sliceApplied (.ref sl) (pure (n:Int))) Q E s:=by
 obtain⟨os,hos,hcs,hds⟩:=id hs;unfold Builtin.Slice.sliceApplied Builtin.Slice.sliceFields;refine wpAny_bind (wpAny_bind (wpAny_field hos hds (x:=vl) rfl (wpAny_bind (wpAny_field hos hds (x:=vu) rfl (wpAny_bind (wpAny_field hos hds (x:=.none) rfl (wpAny_pure ?_)))))));refine wpAny_bind (slicePart_none ?_);show wpAny _ _ (if ((1:Int)==0)=true then _ else _) _ _ s;rw[if_neg (by decide)];refine wpAny_bind (zds pl (wpAny_bind (zds pu (wpAny_bind (wpAny_pure ?_)))));show wpAny _ _ (match Builtin.Slice.sliceAdjust lo hi 1 (n:Int) with|(lo,hi)=>pure (lo,(1:Int),Builtin.Slice.slicePlaces lo hi 1)) _ _ s;rw[zgm lo hi n];show wpAny _ _ (pure (((sIx n 0 lo:Nat):Int),(1:Int),Builtin.Slice.slicePlaces ((sIx n 0 lo:Nat):Int) ((sIx n n hi:Nat):Int) 1)) _ _ s;rw[zfS];exact wpAny_pure h
theorem ziS (xs:Array Value)(i k:Nat):((List.range k).filterMap fun(m:Nat)=>xs[((i:Int)+(m:Int)*1).toNat]?).toArray=((xs.toList.drop i).take k).toArray:=by
 have e:(fun(m:Nat)=>xs[((i:Int)+(m:Int)*1).toNat]?)=fun m=>xs[i+m]?:=by
  funext m
  have:((i:Int)+(m:Int)*1).toNat=i+m:=by omega
  rw[this]
 rw[e];have:=pick_run xs i k;rw[List.filterMap_map] at this;have e2:((fun x=>xs[x]?)∘fun x=>i+x)=fun m=>xs[i+m]?:=rfl;rw[e2] at this;rw[this]
theorem getItem_tuple_cut {t sl:Addr}{items:Array Value}{vl vu:Value}{lo hi:Option Int}{Q:Value->Shared->Prop}(ht:IsTup s.heap t items)(hs:s.heap.IsSliceOf sl vl vu .none)(pl:IsPart vl lo)(pu:IsPart vu hi)
  (hw:¬ (sIx items.size 0 lo=0/\sIx items.size items.size hi=items.size))
  (h:Q (.ref s.heap.objs.size) { s with heap:=s.heap.push { cls:=.type "tuple",data:=.seq ((items.toList.drop (sIx items.size 0 lo)).take (sIx items.size items.size hi-sIx items.size 0 lo)).toArray } })
  (hsz:items.size<=sizeLine):wpAny (model prog w) A (getItem (.ref t) (.ref sl)) Q E s:=by
 have htake:sizeOk (.seq ((items.toList.drop (sIx items.size 0 lo)).take (sIx items.size items.size hi-sIx items.size 0 lo)).toArray):=by
  show((items.toList.drop (sIx items.size 0 lo)).take (sIx items.size items.size hi-sIx items.size 0 lo)).toArray.size<=sizeLine;rw[List.size_toArray,List.length_take,List.length_drop,Array.length_toList];omega
 have hj:sIx items.size items.size hi<=items.size:=zmU _ _ (Nat.le_refl _) hi;obtain⟨os,hos,hcs,hds⟩:=id hs;have hTs:s.TypeIs (.ref sl) "slice":=⟨os,hos,hcs⟩;unfold getItem
 try with_reducible refine wpAny_holding ?_
 first|refine wpAny_bind (wpAny_pure ?_)|skip
 refine wpAny_bind (wpAny_sequenceKey ht.typeIs (by decide) ?_)
 refine wpAny_bind (wpAny_callSpecial?_slot (name:=Str.ofString "__getitem__") ht.typeIs PyProof.Rows.slot_tuple_getitem
  (wpAny_call_entry PyProof.Rows.slot_tuple_getitem ht.typeIs entry_tuple_getitem ?_ (args_tuple_getitem _ _)))
 show wpAny _ _ (Builtin.Tuple.tupleItemsOf (.ref t) >>= _) _ _ s;refine wpAny_bind (tupleItemsOf_ ht ?_);refine wpAny_bind (wpAny_typeOf hTs ?_);rw[if_pos (by decide)];refine wpAny_bind (sliceApplied_gen hs pl pu ?_)
 have hno:¬ ((((sIx items.size 0 lo:Nat):Int)==0&&(1:Int)==1&&(sIx items.size items.size hi-sIx items.size 0 lo)==items.size)=true):=by
  intro q;rw[Bool.and_eq_true,Bool.and_eq_true] at q;have q1:((sIx items.size 0 lo:Nat):Int)=0:=eq_of_beq q.1.1;have q2:sIx items.size items.size hi-sIx items.size 0 lo=items.size:=eq_of_beq q.2;exact hw ⟨by omega,by omega⟩
 show wpAny _ _ (if (((sIx items.size 0 lo:Nat):Int)==0&&(1:Int)==1&&(sIx items.size items.size hi-sIx items.size 0 lo)==items.size)=true then _ else _) _ _ s;rw[if_neg hno,ziS]
 first
  |exact wpAny_bind (m:=Builtin.Tuple.tupleExact _) (wpAny_newObj_type (wpAny_pure ⟨_,rfl,wpAny_pure h⟩) htake)
  |exact wpAny_bind (m:=Builtin.Tuple.tupleExact _) (wpAny_newObj_type (wpAny_bind (wpAny_pure (wpAny_pure ⟨_,rfl,wpAny_pure h⟩))) htake)
  |exact wpAny_bind (wpAny_bind (m:=Builtin.Tuple.tupleExact _) (wpAny_newObj_type (wpAny_pure (wpAny_pure ⟨_,rfl,wpAny_pure h⟩)) htake))
  |exact wpAny_bind (wpAny_bind (m:=Builtin.Tuple.tupleExact _) (wpAny_newObj_type (wpAny_pure ⟨_,rfl,wpAny_pure h⟩) htake))
end
end HT
namespace L2
open PySem PySem.Spec PyProof.Rows
abbrev TO:=St->Hp->(Option Int->Hp->Prop)->Prop
def PO (X:Cx)(e:Option Expr)(t:TO):Prop:=
 ∀(pins:List (Addr×Obj))(s:Shared)(σ:St)(H:Hp)(Q:Option Int->Hp->Prop),Inv X pins σ H s->t σ H Q ->
  wpAny (model X.prog X.w) X.A (evalPart e X.env) (fun u s'=>∃ o H',Inv X pins σ H' s'/\IsPart u o/\Q o H') X.xe s
def tNoPart:TO:=fun _ H Q=>Q none H
def tPart (t:TE):TO:=fun σ H Q=>t σ H fun x H1=>∃ i,x=.int i/\Q (some i) H1
section
variable {X:Cx}{e:Expr}{te:TE}{lo hi:Option Expr}{tl th:TO}{pos p2:Pos}
theorem po_none:PO X none tNoPart:=by
 intro pins s σ H Q I h;rw[evalPart_none];exact wpAny_pure ⟨none,H,I,.none,h⟩
theorem zkV (h:PE X e te):PO X (some e) (tPart te):=by
 intro pins s σ H Q I hw;rw[evalPart_some];refine thn (h pins s σ H _ I hw) fun u s1 ⟨x,H1,I1,r1,q1⟩=>?_;obtain⟨i,rfl,q⟩:=q1;obtain⟨t,rfl⟩:=r1;exact⟨some i,H1,I1,.int i t,q⟩
def SlR (X:Cx)(r:V->Option Int->Option Int->Hp->VK->Prop):Prop:=
 ∀(pins:List (Addr×Obj))(s:Shared)(σ:St)(H:Hp)(x:V)(v vl vu:Value)(lo hi:Option Int)(sl:Addr)(Q:VK),Inv X pins σ H s->RelV x v->s.heap.IsSliceOf sl vl vu .none->IsPart vl lo->IsPart vu hi->r x lo hi H Q ->
  ∃ T id,typeLookup (.type T) "__getitem__"=pure (some (.builtin id))/\s.TypeIs v T/\wpAny (model X.prog X.w) X.A (getItem v (.ref sl)) (EP X pins σ Q) X.xe s
theorem SlR.or {r r':V->Option Int->Option Int->Hp->VK->Prop}(h:SlR X r)(h':SlR X r'):SlR X (fun x lo hi H Q=>r x lo hi H Q\/r' x lo hi H Q):=by
 intro pins s σ H x v vl vu lo hi sl Q I rx hs pl pu q;rcases q with q|q
 ·exact h pins s σ H x v vl vu lo hi sl Q I rx hs pl pu q
 ·exact h' pins s σ H x v vl vu lo hi sl Q I rx hs pl pu q
def tSl (r:V->Option Int->Option Int->Hp->VK->Prop)(te:TE)(tl th:TO):TE:=fun σ H Q=>te σ H fun x H1=>tl σ H1 fun l H2=>th σ H2 fun u H3=>r x l u H3 Q
theorem zfy {r:V->Option Int->Option Int->Hp->VK->Prop}(hr:SlR X r)(he:PE X e te)(hl:PO X lo tl)(hu:PO X hi th):PE X (.Subscript e (.Slice lo hi none p2) pos) (tSl r te tl th):=by
 intro pins s σ H Q I h;refine Subscript_ (thn (he pins s σ H _ I h) fun v s1 ⟨x,H1,I1,r1,q1⟩=>?_);refine wpAny_Slice (thn (hl pins s1 σ H1 _ I1 q1) fun vl s2 ⟨l,H2,I2,pl,q2⟩=>thn (hu pins s2 σ H2 _ I2 q2) fun vu s3 ⟨u,H3,I3,pu,q3⟩=>?_);rw[evalPart_none];refine wpAny_pure ?_;have I4:Inv X pins σ H3 { s3 with heap:=s3.heap.push { cls:=.type "slice",data:=.fields #[vl,vu,.none] } }:=I3.kept (t':=s3.toks) fun b ob q=>Heap.get?_push_of_some _ q;obtain⟨T,id,hT,ht,hg⟩:=hr pins { s3 with heap:=s3.heap.push { cls:=.type "slice",data:=.fields #[vl,vu,.none] } } σ H3 x v vl vu l u s3.heap.objs.size Q I4 r1 (Heap.IsSliceOf.new ..) pl pu q3;show wpAny (model X.prog X.w) X.A (subscriptTail e (.Slice lo hi none p2) v (.ref s3.heap.objs.size)) (EP X pins σ Q) X.xe { s3 with heap:=s3.heap.push { cls:=.type "slice",data:=.fields #[vl,vu,.none] } };exact tail_any (ops:=[.ref s3.heap.objs.size,v]) ht hT hg (by with_unfolding_all rfl)
def cutV (xs:List V)(lo hi:Option Int):List V:=(xs.drop (HT.sIx xs.length 0 lo)).take (HT.sIx xs.length xs.length hi-HT.sIx xs.length 0 lo)
theorem zdc (xs:List V)(lo hi:Option Int):(cutV xs lo hi).length<=xs.length:=by
 unfold cutV;rw[List.length_take,List.length_drop];omega
def rSlT (K:Frag):V->Option Int->Option Int->Hp->VK->Prop:=fun x lo hi H Q=>∃ a xs,x=.ref a/\SqT K H a xs /\
 ¬ (HT.sIx xs.length 0 lo=0/\HT.sIx xs.length xs.length hi=xs.length)/\∀ p,H p=none->Q (.ref p) (upd H p (.tup (cutV xs lo hi)))
theorem zmR:SlR X (rSlT X.K):=by
 intro pins s σ H x v vl vu lo hi sl Q I rx hs pl pu h;obtain⟨a,xs,rfl,hx,hw,q⟩:=h;cases rx;obtain⟨its,r,ht,hz⟩:=I.tuple hx;have hlen:its.toArray.size=xs.length:=by rw[List.size_toArray];exact r.length.symm
 refine⟨"tuple",_,PyProof.Rows.slot_tuple_getitem.lookup,ht.typeIs,?_⟩;refine HT.getItem_tuple_cut ht hs pl pu (by rw[hlen];exact hw) ?_ (by rw[hlen];exact hz);rw[hlen];refine⟨.ref s.heap.objs.size,_,I.laid (t':=s.toks) (o:=.tup (cutV xs lo hi)) (fun b ob q=>Heap.get?_push_of_some _ q) (Nat.le_refl _) ?_,rfl,q _ (I.hok.fresh (Nat.le_refl _))⟩;exact⟨Nat.le_trans (zdc xs lo hi) hz,_,(r.drop (HT.sIx xs.length 0 lo)).take (HT.sIx xs.length xs.length hi-HT.sIx xs.length 0 lo),IsTup.new _ _⟩
def rCatT (K:Frag):R2:=fun x y H Q=>∃ a b xs ys,x=.ref a/\y=.ref b/\SqT K H a xs/\SqT K H b ys/\xs≠[]/\xs.length+ys.length<=sizeLine /\
 (ys=[]->Q (.ref a) H)/\(ys≠[]->∀ p,H p=none->Q (.ref p) (upd H p (.tup (xs++ys))))
theorem Vals.nil_iff {xs:List V}{us:List Value}(r:Vals xs us):us=[]↔xs=[]:=by
 cases r with
 |nil=>simp
 |cons _ _=>simp
theorem zlc:OpR X (binaryOp .Add) (rCatT X.K):=by
 intro pins s σ H x y v u Q I rx ry h;obtain⟨a,b,xs,ys,rfl,rfl,ha,hb,hx,hz,q1,q2⟩:=h;cases rx;cases ry;obtain⟨its,r1,p1,_⟩:=I.tuple ha;obtain⟨its2,r2,p2,_⟩:=I.tuple hb;refine HT.cat_tup p1 p2 (fun z=>hx (r1.nil_iff.mp z)) (fun z=>⟨.ref a,H,I,rfl,q1 (r2.nil_iff.mp z)⟩) (fun z=>?_) (by rw[<- r1.length,<- r2.length];exact hz);refine⟨.ref s.heap.objs.size,_,I.laid (t':=s.toks) (o:=.tup (xs++ys)) (fun b ob q=>Heap.get?_push_of_some _ q) (Nat.le_refl _) ?_,rfl,q2 (fun w=>z (r2.nil_iff.mpr w)) _ (I.hok.fresh (Nat.le_refl _))⟩;exact⟨by rw[List.length_append];exact hz,_,r1.append r2,IsTup.new _ _⟩
end
end L2
namespace L2
open PySem PySem.Spec PyProof.Rows
def ixN (n:Nat)(i:Int):Option Nat:=if 0<=i then (if i<n then some i.toNat else none) else if -(n:Int)<=i then some (i+n).toNat else none
def atI {α:Type}(xs:List α)(i:Int):Option α:=(ixN xs.length i).bind fun j=>xs[j]?
theorem zlv {n:Nat}{i:Int}{j:Nat}(h:ixN n i=some j):seqIndex? i n=some j/\j<n /\ -(n:Int)<=i/\i<n:=by
 unfold ixN at h;by_cases h0:0<=i
 ·rw[if_pos h0] at h;by_cases h1:i<n
  ·rw[if_pos h1] at h;have e:i.toNat=j:=Option.some.inj h;exact⟨by rw[seqIndex_of h0 h1,e],by omega,by omega,h1⟩
  ·rw[if_neg h1] at h;cases h
 ·rw[if_neg h0] at h;by_cases h1:-(n:Int)<=i
  ·rw[if_pos h1] at h;have e:(i+n).toNat=j:=Option.some.inj h;exact⟨by rw[seqIndex_neg (by omega) h1,e],by omega,h1,by omega⟩
  ·rw[if_neg h1] at h;cases h
theorem zfr {α:Type}{xs:List α}{i:Int}{v:α}(h:atI xs i=some v):∃ j,seqIndex? i xs.length=some j/\xs[j]?=some v/\j<xs.length /\ -(xs.length:Int)<=i/\i<xs.length:=by
 unfold atI at h
 cases e:ixN xs.length i with
 |none=>rw[e] at h;cases h
 |some j=>
  rw[e] at h;obtain⟨h1,h2,h3,h4⟩:=zlv e;exact⟨j,h1,h,h2,h3,h4⟩
theorem zmj {α:Type}{xs:List α}{j:Nat}{v:α}(h:xs[j]?=some v):atI xs (j:Int)=some v:=by
 have hj:j<xs.length:=(List.getElem?_eq_some_iff.mp h).1
 have e:ixN xs.length (j:Int)=some j:=by
  unfold ixN;rw[if_pos (by omega),if_pos (by omega)];simp
 unfold atI;rw[e];exact h
def PlainIx (b:Expr):Prop:=∀ o i,subscripted b false o i=operate [o,i] (getItem o i)
def IxR (X:Cx)(r:R2):Prop:=
 ∀(value slice:Expr)(pins:List (Addr×Obj))(s:Shared)(σ:St)(H:Hp)(x y:V)(v u:Value)(Q:VK),Inv X pins σ H s->RelV x v->RelV y u->r x y H Q ->
  subscripted slice false v u=operate [v,u] (getItem v u)->wpAny (model X.prog X.w) X.A (subscriptTail value slice v u) (EP X pins σ Q) X.xe s
def MtR (X:Cx)(id:String)(r:V->List V->Hp->VK->Prop):Prop:=
 ∀(pins:List (Addr×Obj))(s:Shared)(σ:St)(H:Hp)(x:V)(xs:List V)(v:Value)(us:List Value)(Q:VK),Inv X pins σ H s->RelV x v->Vals xs us->r x xs H Q ->
  wpAny (model X.prog X.w) X.A (call (.builtin id) (v::us)) (EP X pins σ Q) X.xe s
section
variable {X:Cx}{a b:Expr}{ta tb:TE}{pos:Pos}
theorem IxR.or {r r':R2}(h:IxR X r)(h':IxR X r'):IxR X (fun x y H Q=>r x y H Q\/r' x y H Q):=by
 intro value slice pins s σ H x y v u Q I rx ry q hs;rcases q with q|q
 ·exact h value slice pins s σ H x y v u Q I rx ry q hs
 ·exact h' value slice pins s σ H x y v u Q I rx ry q hs
theorem ziU {r:R2}(hr:IxR X r)(ha:PE X a ta)(hb:PE X b tb)(hs:PlainIx b):PE X (.Subscript a b pos) (tOp r ta tb):=by
 intro pins s σ H Q I h;exact Subscript_ (binT ha hb I h fun v u s2 x y H2 I2 rx ry q=>hr a b pins s2 σ H2 x y v u Q I2 rx ry q (hs _ _))
def rIxL (K:Frag):R2:=fun x y H Q=>∃ p xs i v,x=.ref p/\y=.int i/\SqL K H p xs/\atI xs i=some v/\Q v H
def rIxT (K:Frag):R2:=fun x y H Q=>∃ p xs i v,x=.ref p/\y=.int i/\SqT K H p xs/\atI xs i=some v/\Q v H
def rIxS:R2:=fun x y H Q=>∃ z i c,x=.str z/\y=.int i/\z.length<=sizeLine/\atI z.cps.toList i=some c/\Q (.str ⟨#[c]⟩) H
theorem ix_list:IxR X (rIxL X.K):=by
 intro value slice pins s σ H x y v u Q I rx ry h hs;obtain⟨p,xs,i,z,rfl,rfl,hq,he,q⟩:=h;cases rx;obtain⟨t,rfl⟩:=ry;obtain⟨its,r,pl,hz⟩:=I.list hq;obtain⟨j,h1,h2,h3,h4,h5⟩:=zfr he;obtain⟨w,ew,rw'⟩:=r.get h2;have hl:=r.length;have hn:=zcT;have fin:EP X pins σ Q w s:=⟨z,H,I,rw',q⟩;by_cases h0:0<=i
 ·have hj:i.toNat=j:=by
   rw[seqIndex_of h0 h5] at h1;exact Option.some.inj h1
  exact item_listR pl.isList h0 (by omega) (by rw[hj];simpa using ew) fin hs
 ·have hj:(i+(its.toArray.size:Int)).toNat=j:=by
   rw[seqIndex_neg (by omega) h4] at h1;rw[List.size_toArray,<- hl];exact Option.some.inj h1
  exact subscriptTail_builtinR (x:=w) pl.isList.typeIs slot_list_getitem.lookup
   (wpAny_getItem_list_neg (Q:=fun r s'=>r=w/\EP X pins σ Q r s') pl.isList (by omega) (by rw[List.size_toArray]<;>omega) (by omega) (by rw[hj];simpa using ew) ⟨rfl,fin⟩) hs
theorem ix_tup:IxR X (rIxT X.K):=by
 intro value slice pins s σ H x y v u Q I rx ry h hs;obtain⟨p,xs,i,z,rfl,rfl,hq,he,q⟩:=h;cases rx;obtain⟨t,rfl⟩:=ry;obtain⟨its,r,pl,hz⟩:=I.tuple hq;obtain⟨j,h1,h2,h3,h4,h5⟩:=zfr he;obtain⟨w,ew,rw'⟩:=r.get h2;have hl:=r.length;have hn:=zcT;have fin:EP X pins σ Q w s:=⟨z,H,I,rw',q⟩
 exact subscriptTail_builtinR (x:=w) pl.typeIs slot_tuple_getitem.lookup
  (getItem_tuple (j:=j) (Q:=fun r s'=>r=w/\EP X pins σ Q r s') pl (by omega) (by omega) (by rw[List.size_toArray,<- hl];exact h1) (by simpa using ew) ⟨rfl,fin⟩) hs
theorem zob:IxR X rIxS:=by
 intro value slice pins s σ H x y v u Q I rx ry h hs;obtain⟨z,i,c,rfl,rfl,hz,he,q⟩:=h;obtain⟨t,rfl⟩:=rx;obtain⟨t',rfl⟩:=ry;obtain⟨j,h1,h2,h3,h4,h5⟩:=zfr he;have hl:z.cps.toList.length=z.length:=by simp [Str.length]
 rw[hl] at h1 h4 h5;have hn:=zcT
 exact tail_any (typeIs_str s z t) slot_str_getitem.lookup (getItem_str (c:=c) (by
  have e1:decide (i < -(2 ^ 63:Int))=false:=decide_eq_false (by omega);have e2:decide (i≥2 ^ 63)=false:=decide_eq_false (by omega)
  rw[e1,e2,Bool.or_false]) (by rw[h1];simpa using h2) ⟨.str ⟨#[c]⟩,H,I.tok _,⟨_,rfl⟩,q⟩) hs
def rIx (K:Frag):R2:=fun x y H Q=>rIxL K x y H Q\/rIxT K x y H Q\/rIxS x y H Q
theorem ix_seq:IxR X (rIx X.K):=ix_list.or (ix_tup.or zob)
theorem zdZ (lo hi:Option Int)(n:Nat):(sliceBounds lo hi none n).1=((HT.sIx n 0 lo:Nat):Int)/\(sliceBounds lo hi none n).2.1=((HT.sIx n n hi:Nat):Int)/\(sliceBounds lo hi none n).2.2=1:=by
 refine⟨?_,?_,rfl⟩
 ·cases lo with
  |none=>simp [sliceBounds,HT.sIx]
  |some i=>
   simp only[sliceBounds,HT.sIx,Option.getD_none,show(1:Int) > 0 by decide,if_true];by_cases h:i<0
   ·simp only[h,if_true]<;>omega
   ·simp only[h,if_false]<;>omega
 ·cases hi with
  |none=>simp [sliceBounds,HT.sIx]
  |some i=>
   simp only[sliceBounds,HT.sIx,Option.getD_none,show(1:Int) > 0 by decide,if_true];by_cases h:i<0
   ·simp only[h,if_true]<;>omega
   ·simp only[h,if_false]<;>omega
theorem zdD (its:List Value)(lo hi:Option Int):slicePick its.toArray lo hi none=((its.drop (HT.sIx its.length 0 lo)).take (HT.sIx its.length its.length hi-HT.sIx its.length 0 lo)).toArray:=by
 obtain⟨h1,h2,h3⟩:=zdZ lo hi its.toArray.size;unfold slicePick;rw[h1,h2,h3];simp only[sliceRange_one,pick_run,List.size_toArray]<;>rfl
def rSlL (K:Frag):V->Option Int->Option Int->Hp->VK->Prop:=fun x lo hi H Q=>∃ a xs,x=.ref a/\SqL K H a xs/\∀ p,H p=none->Q (.ref p) (upd H p (.lst (cutV xs lo hi)))
theorem sl_list:SlR X (rSlL X.K):=by
 intro pins s σ H x v vl vu lo hi sl Q I rx hs pl pu h;obtain⟨a,xs,rfl,hx,q⟩:=h;cases rx;obtain⟨its,r,ht,hz⟩:=I.list hx;have hlen:=r.length;refine⟨"list",_,slot_list_getitem.lookup,ht.isList.typeIs,?_⟩;refine wpAny_getItem_list_slice ht.isList hs pl pu .none (by simp) ?_ (by rw[List.size_toArray]<;>omega);rw[zdD,<- hlen];refine⟨.ref s.heap.objs.size,_,I.laid (t':=s.toks) (o:=.lst (cutV xs lo hi)) (fun b ob q=>Heap.get?_push_of_some _ q) (Nat.le_refl _) ?_,rfl,q _ (I.hok.fresh (Nat.le_refl _))⟩;exact⟨Nat.le_trans (zdc xs lo hi) hz,_,0,(r.drop (HT.sIx xs.length 0 lo)).take (HT.sIx xs.length xs.length hi-HT.sIx xs.length 0 lo),Heap.get?_push_size _ rfl⟩
def flatV:V->Bool
 |.non=>true
 |.bl _=>true
 |.int _=>true
 |.str _=>true
 |_=>false
def eqV:V->V->Bool
 |.non,.non=>true
 |.bl a,.bl b=>a==b
 |.bl a,.int b=>(if a then 1 else 0)==b
 |.int a,.bl b=>a==(if b then 1 else 0)
 |.int a,.int b=>a==b
 |.str a,.str b=>a==b
 |_,_=>false
theorem zoJ {A:Around}{s:Shared}{y x:V}{u v:Value}(ry:RelV y u)(rx:RelV x v)(fy:flatV y=true)(fx:flatV x=true):SeqAt.EqAt A s u v (eqV y x):=by
 cases y with
 |non=>
  cases ry
  cases x with
  |non=>cases rx;exact SeqAt.EqAt.same _
  |bl b=>cases rx;exact SeqAt.EqAt.none_bool b
  |int b=>obtain⟨t,rfl⟩:=rx;exact SeqAt.EqAt.none_int b t
  |str b=>obtain⟨t,rfl⟩:=rx;exact SeqAt.EqAt.none_str b t
  |_=>exact absurd (show false=true from fx) Bool.false_ne_true
 |bl a=>
  cases ry
  cases x with
  |non=>cases rx;exact SeqAt.EqAt.bool_none a
  |bl b=>cases rx;exact SeqAt.EqAt.bool_bool a b
  |int b=>obtain⟨t,rfl⟩:=rx;exact SeqAt.EqAt.bool_int a b t
  |str b=>obtain⟨t,rfl⟩:=rx;exact SeqAt.EqAt.bool_str a b t
  |_=>exact absurd (show false=true from fx) Bool.false_ne_true
 |int a=>
  obtain⟨t',rfl⟩:=ry
  cases x with
  |non=>cases rx;exact SeqAt.EqAt.int_none a t'
  |bl b=>cases rx;exact SeqAt.EqAt.int_bool a t' b
  |int b=>obtain⟨t,rfl⟩:=rx;exact SeqAt.EqAt.int_int a t' b t
  |str b=>obtain⟨t,rfl⟩:=rx;exact SeqAt.EqAt.int_str a t' b t
  |_=>exact absurd (show false=true from fx) Bool.false_ne_true
 |str a=>
  obtain⟨t',rfl⟩:=ry
  cases x with
  |non=>cases rx;exact SeqAt.EqAt.str_none a t'
  |bl b=>cases rx;exact SeqAt.EqAt.str_bool a t' b
  |int b=>obtain⟨t,rfl⟩:=rx;exact SeqAt.EqAt.str_int a t' b t
  |str b=>obtain⟨t,rfl⟩:=rx;exact SeqAt.EqAt.str_str a t' b t
  |_=>exact absurd (show false=true from fx) Bool.false_ne_true
 |_=>exact absurd (show false=true from fy) Bool.false_ne_true
theorem zef:OpR X (compareOp .NotIn) (fun x y H Q=>∃ i j,x=.str i/\y=.str j/\Q (.bl (!(!(Builtin.Str.occurrences j i 0 j.length 1).isEmpty))) H):=by
 intro pins s σ H x y v u Q I rx ry h;obtain⟨i,j,rfl,rfl,q⟩:=h;obtain⟨t,rfl⟩:=rx;obtain⟨t',rfl⟩:=ry;exact notIn_str ⟨.bl _,H,I,rfl,q⟩
theorem zaH:CallR X (.builtin "len") (fun xs H Q=>∃ p ys,xs=[.ref p]/\(SqL X.K H p ys\/SqT X.K H p ys)/\Q (.int ys.length) H):=by
 intro pins s σ H xs us Q I r h;obtain⟨p,ys,rfl,hq,q⟩:=h;obtain⟨u,rfl,rx⟩:=zbk r;cases rx;have hn:=zcT;rcases hq with hq|hq
 ·obtain⟨its,r',pl,hz⟩:=I.list hq;have hlen:=r'.length;exact Calls.call_len_list pl.isList (by simp only[List.size_toArray]<;>omega) ⟨.int ys.length,H,I.tok _,⟨s.toks+1,by rw[List.size_toArray,hlen]⟩,q⟩
 ·obtain⟨its,r',pl,hz⟩:=I.tuple hq;have hlen:=r'.length;exact len_tuple pl (by simp only[List.size_toArray]<;>omega) ⟨.int ys.length,H,I.tok _,⟨s.toks+1,by rw[List.size_toArray,hlen]⟩,q⟩
theorem zeH:CallR X (.builtin "len") (fun xs H Q=>∃ z,xs=[.str z]/\z.length<=sizeLine/\Q (.int z.length) H):=by
 intro pins s σ H xs us Q I r h;obtain⟨z,rfl,hz,q⟩:=h;obtain⟨u,rfl,t,rfl⟩:=zbk r;have hn:=zcT;exact len_str (by omega) ⟨.int z.length,H,I.tok _,⟨_,rfl⟩,q⟩
theorem CallR.or {f:Value}{r r':List V->Hp->VK->Prop}(h:CallR X f r)(h':CallR X f r'):CallR X f (fun xs H Q=>r xs H Q\/r' xs H Q):=by
 intro pins s σ H xs us Q I rs q;rcases q with q|q
 ·exact h pins s σ H xs us Q I rs q
 ·exact h' pins s σ H xs us Q I rs q
theorem zeG:CallR X (.type "list") (fun xs H Q=>∃ p ys,xs=[.ref p]/\(SqL X.K H p ys\/SqT X.K H p ys)/\∀ l,H l=none->Q (.ref l) (upd H l (.lst ys))):=by
 intro pins s σ H xs us Q I r h;obtain⟨p,ys,rfl,hq,q⟩:=h;obtain⟨u,rfl,rx⟩:=zbk r;cases rx
 have fin:∀(its:List Value),Vals ys its->ys.length<=sizeLine->∀(h':Heap)(c':Nat),(∀ b o',s.heap.get? b=some o'->h'.get? b=some o') ->
   h'.get? s.heap.objs.size=some { cls:=.type "list",dict:=none,data:=.seq its.toArray c',slots:=#[] }->EP X pins σ Q (.ref s.heap.objs.size) { s with heap:=h' }:=fun its r' hz h' c' kp e=>
  ⟨.ref s.heap.objs.size,_,I.laid (t':=s.toks) kp (Nat.le_refl _) (show ObjOk X.prog X.w _ h' _ (.lst ys) from⟨hz,its,c',r',e⟩),rfl,q _ (I.hok.fresh (Nat.le_refl _))⟩
 rcases hq with hq|hq
 ·obtain⟨its,r',pl,hz⟩:=I.list hq;have hlen:=r'.length;obtain⟨o,ho,hc,n,hd⟩:=pl.isList;exact call_list_seq p (.inl rfl) ho hc hd (fun h' c' kp e=>fin its r' hz h' c' kp e) (by simp only[List.size_toArray]<;>omega)
 ·obtain⟨its,r',pl,hz⟩:=I.tuple hq;have hlen:=r'.length;obtain⟨o,ho,hc,n,hd⟩:=pl;exact call_list_seq p (.inr rfl) ho hc hd (fun h' c' kp e=>fin its r' hz h' c' kp e) (by simp only[List.size_toArray]<;>omega)
theorem zdU:CallR X (.type "tuple") (fun xs H Q=>∃ p ys,xs=[.ref p]/\((SqL X.K H p ys/\∀ l,H l=none->Q (.ref l) (upd H l (.tup ys)))\/(SqT X.K H p ys/\Q (.ref p) H))):=by
 intro pins s σ H xs us Q I r h;obtain⟨p,ys,rfl,h⟩:=h;obtain⟨u,rfl,rx⟩:=zbk r;cases rx;rcases h with ⟨hq,q⟩|⟨hq,q⟩
 ·obtain⟨its,r',pl,hz⟩:=I.list hq;have hlen:=r'.length;refine call_tuple_list pl.isList (fun h' kp=>?_) (by simp only[List.size_toArray]<;>omega);have I1:Inv X pins σ H { s with heap:=h' }:=I.kept (t':=s.toks) kp
  have I2:Inv X pins σ (upd H h'.objs.size (.tup ys)) { s with heap:=h'.push { cls:=.type "tuple",data:=.seq its.toArray } }:=
   I1.laid (t':=s.toks) (fun b o e=>Heap.get?_push_of_some _ e) (Nat.le_refl _) (show ObjOk X.prog X.w _ _ _ (.tup ys) from⟨hz,its,r',IsTup.new _ _⟩)
  exact⟨.ref h'.objs.size,_,I2,rfl,q _ (I1.hok.fresh (Nat.le_refl _))⟩
 ·obtain⟨its,r',pl,hz⟩:=I.tuple hq;exact call_tuple_same pl ⟨.ref p,H,I,rfl,q⟩
def tyV (K:Frag)(T:String)(x:V)(H:Hp):Prop:=match x with
 |.str _=>T="str"
 |.int _=>T="int"
 |.ref p=>(T="list"/\∃ xs,SqL K H p xs)\/(T="tuple"/\∃ o,K.lookup p=some o/\o.cls=.type "tuple"/\o.dict=none) \/
   (T="dict"/\((∃ kvs,H p=some (.dK kvs))\/∃ kvs,H p=some (.dT kvs)))\/(T="set"/\∃ S n,H p=some (.set S n))
 |_=>False
theorem zjN {pins:List (Addr×Obj)}{σ:St}{H:Hp}{s:Shared}{T:String}{x:V}{v:Value}(I:Inv X pins σ H s)(r:RelV x v)(ty:tyV X.K T x H) :
  s.TypeIs v T/\∀ a,v=.ref a->∃ ob,s.heap.get? a=some ob/\ob.dict=none:=by
 cases x with
 |str z=>
  obtain⟨t,rfl⟩:=r;cases (show T="str" from ty);exact⟨typeIs_str s z t,fun _ e=>nomatch e⟩
 |int i=>
  obtain⟨t,rfl⟩:=r;cases (show T="int" from ty);exact⟨typeIs_int s i t,fun _ e=>nomatch e⟩
 |ref p=>
  cases r;rcases ty with ⟨rfl,xs,hq⟩|⟨rfl,o,hk,hc,hd⟩|⟨rfl,hk⟩|⟨rfl,S,n,hk⟩
  ·obtain⟨its,_,pl,_⟩:=I.list hq;refine⟨pl.isList.typeIs,fun a e=>?_⟩;cases e;obtain⟨o,n,e,c,hd,_⟩:=pl;exact⟨o,e,hd⟩
  ·refine⟨⟨o,I.kIn p o hk,hc⟩,fun a e=>?_⟩;cases e;exact⟨o,I.kIn _ o hk,hd⟩
  ·have z:∃ o,s.heap.get? p=some o/\o.ExactDict:=by
    rcases hk with ⟨kvs,hk⟩|⟨kvs,hk⟩
    ·obtain⟨_,_,_,_,o,_,_,e,ex,_⟩:=I.hok p _ hk;exact⟨o,e,ex⟩
    ·obtain⟨_,_,_,_,o,_,_,e,ex,_⟩:=I.hok p _ hk;exact⟨o,e,ex⟩
   obtain⟨o,e,ex⟩:=z;refine⟨⟨o,e,ex.1⟩,fun a e2=>?_⟩;cases e2;exact⟨o,e,ex.2.1⟩
  ·obtain⟨o,_,_,_,e,ex,_⟩:=I.hok p _ hk;refine⟨⟨o,e,ex.1⟩,fun a e2=>?_⟩;cases e2;exact⟨o,e,ex.2.1⟩
 |_=>exact False.elim ty
def tBM0 (K:Frag)(T:String)(r:V->List V->Hp->VK->Prop)(to:TE):TE:=fun σ H Q=>to σ H fun x H1=>tyV K T x H1/\r x [] H1 Q
def tBM (K:Frag)(T:String)(r:V->List V->Hp->VK->Prop)(to:TE)(t:TA):TE:=fun σ H Q=>to σ H fun x H1=>tyV K T x H1/\t σ H1 fun xs H2=>r x xs H2 Q
variable {o e:Expr}{es:List Expr}{to:TE}{t:TA}{name:Str}{apos cpos:Pos}{T id:String}{r:V->List V->Hp->VK->Prop}
theorem znw (pa:PlainAttrs T)(slot:Slot T name id)(hty:typeOf (.builtin id)=pure (.type "method_descriptor"))(hm:MtR X id r)(ho:PE X o to)
  (hbase:attributeBase o name X.env (eval o X.env)=eval o X.env:=by rfl)(hline:(apos.endLine==cpos.line)=true:=by rfl):PE X (.Call (.Attribute o name apos) [] [] cpos) (tBM0 X.K T r to):=by
 intro pins s σ H Q I h;refine wpAny_Call_method0_late hbase hline (thn (ho pins s σ H _ I h) fun v s1 ⟨x,H1,I1,r1,ty,q1⟩=>?_);obtain⟨h1,h2⟩:=zjN I1 r1 ty;exact⟨T,id,pa,slot,hty,h1,h2,Calls.callWith_builtin rfl (PySem.evalArgs_none (hm pins s1 σ H1 x [] v [] Q I1 r1 .nil q1))⟩
theorem zfT (pa:PlainAttrs T)(slot:Slot T name id)(hty:typeOf (.builtin id)=pure (.type "method_descriptor"))(hm:MtR X id r)(ho:PE X o to)(ha:PA X (e::es) t)
  (hbase:attributeBase o name X.env (eval o X.env)=eval o X.env:=by rfl)
  (hfew:((backTo cpos (starEach (e::es) X.env)).all (fun x=>!x.1)&&(backToKw cpos (keywordEach [] X.env)).all (fun x=>x.1.isSome)
   && decide ((e::es).length+([]:List Keyword).length+(if ([]:List Keyword).isEmpty then 0 else 1)<30))=true:=by rfl)
  (hline:(apos.endLine==cpos.line)=true:=by rfl)(hs:starEach (e::es) X.env=(false,eval e X.env)::starEach es X.env:=by rfl)(hplain:(backTo cpos (starEach es X.env)).any (·.1)=false:=by rfl) :
  PE X (.Call (.Attribute o name apos) (e::es) [] cpos) (tBM X.K T r to t):=by
 intro pins s σ H Q I h;refine wpAny_Call_method_late hbase hfew hline rfl (thn (ho pins s σ H _ I h) fun v s1 ⟨x,H1,I1,r1,ty,q1⟩=>?_);obtain⟨h1,h2⟩:=zjN I1 r1 ty;refine⟨T,id,pa,slot,hty,h1,h2,?_⟩;have hA:=ha cpos pins s1 σ H1 _ I1 q1;rw[hs] at hA ⊢;refine Calls.callWith_builtin (by show(false||(backTo cpos (starEach es X.env)).any (·.1))=false;rw[hplain]<;>rfl) (Calls.evalArgs_plain ?_);exact thn hA fun us s2 ⟨vs,H2,I2,r2,q2⟩=>hm pins s2 σ H2 x vs v us Q I2 r1 r2 q2
end
end L2
namespace L2
open PySem PySem.Spec PyProof.Rows
def MtM (X:Cx)(id:String)(r:V->List V->Hp->VK->Prop):Prop:=
 ∀(pins:List (Addr×Obj))(s:Shared)(σ:St)(H:Hp)(x:V)(xs:List V)(v:Value)(us:List Value)(Q:VK),Inv X pins σ H s->RelV x v->Vals xs us->r x xs H Q ->
  wpAny (model X.prog X.w) X.A (call (.builtin id) (v::us)) (EP X pins σ Q) X.xe s
theorem Vals.one:∀{x:V}{us:List Value},Vals [x] us->∃ u,us=[u]/\RelV x u
 |_,_,.cons r .nil=>⟨_,rfl,r⟩
theorem Vals.zero:∀{us:List Value},Vals [] us->us=[]
 |_,.nil=>rfl
theorem Vals.dropLast {xs:List V}{us:List Value}(h:Vals xs us):Vals xs.dropLast us.dropLast:=by
 induction h with
 |nil=>exact .nil
 |cons r t ih=>
  cases t with
  |nil=>exact .nil
  |cons q t'=>exact .cons r ih
theorem Vals.eraseIdx:∀{xs:List V}{us:List Value}(i:Nat),Vals xs us->Vals (xs.eraseIdx i) (us.eraseIdx i)
 |_,_,_,.nil=>.nil
 |_,_,0,.cons _ t=>t
 |_,_,i+1,.cons r t=>.cons r (Vals.eraseIdx i t)
theorem Vals.reverse {xs:List V}{us:List Value}(h:Vals xs us):Vals xs.reverse us.reverse:=by
 induction h with
 |nil=>exact .nil
 |cons r t ih=>rw[List.reverse_cons,List.reverse_cons];exact Vals.append ih (.cons r .nil)
theorem Vals.rep {xs:List V}{us:List Value}(h:Vals xs us):∀ k:Nat,Vals (List.replicate k xs).flatten (List.replicate k us).flatten
 |0=>.nil
 |k+1=>by
  rw[List.replicate_succ,List.replicate_succ,List.flatten_cons,List.flatten_cons];exact Vals.append h (Vals.rep h k)
theorem zgc {α:Type}(l:List α):l.eraseIdx (l.length-1)=l.dropLast:=by
 induction l with
 |nil=>rfl
 |cons a r ih=>
  cases r with
  |nil=>rfl
  |cons b r=>
   have e:(a::b::r).length-1=((b::r).length-1)+1:=by
    have h1:(a::b::r).length=r.length+2:=rfl;have h2:(b::r).length=r.length+1:=rfl;omega
   rw[e,List.eraseIdx_cons_succ,ih]
   all_goals rfl
theorem zek {α:Type}:∀(l:List α)(i:Nat),(l.eraseIdx i).length<=l.length
 |[],_=>Nat.le_refl _
 |_::_,0=>Nat.le_succ _
 |_::r,i+1=>Nat.succ_le_succ (zek r i)
theorem zew (its:List Value):∀(k:Nat)(acc:List Value),
  List.foldl (fun x1 x2=>x1++x2) acc.toArray (List.replicate k its.toArray)=(acc++(List.replicate k its).flatten).toArray
 |0,acc=>by simp
 |k+1,acc=>by
  have e:acc.toArray++its.toArray=(acc++its).toArray:=by simp
  have e2:(acc++its)++(List.replicate k its).flatten=acc++(List.replicate (k+1) its).flatten:=by
   rw[List.replicate_succ,List.flatten_cons,List.append_assoc]
  rw[<- e2,<- zew its k (acc++its),<- e,List.replicate_succ,List.foldl_cons]
section
variable {X:Cx}{pins:List (Addr×Obj)}{σ:St}{H:Hp}{s:Shared}{l b:Addr}{xs ys zs:List V}
theorem Inv.lset {its its':List Value}{n:Nat}{f:Array Value->Array Value}{t':Nat}(I:Inv X pins σ H s)(hH:H l=some (.lst xs))
  (e:s.heap.get? l=some { cls:=.type "list",data:=.seq its.toArray n })(hf:f its.toArray=its'.toArray)(hv:Vals ys its')(hz:ys.length<=sizeLine) :
  Inv X pins σ (upd H l (.lst ys)) { s with heap:=s.heap.update l (Obj.mapSeq f),toks:=t' }:=by
 have q:=PySem.IsL.update e f;rw[hf] at q;refine I.write (x:=l) (e:=l) (by rw[hH];exact trivial) (.inl rfl) (fun b' u hb hu=>(Heap.get?_update_other s.heap (Obj.mapSeq f) (Ne.symm hb)).trans hu) ⟨_,q⟩ ?_;exact⟨hz,its',_,hv,q⟩
theorem Inv.lnew {its:List Value}{t':Nat}(I:Inv X pins σ H s)(hv:Vals ys its)(hz:ys.length<=sizeLine) :
  Inv X pins σ (upd H s.heap.objs.size (.lst ys)) { s with heap:=s.heap.push { cls:=.type "list",data:=.seq its.toArray },toks:=t' }:=
 I.laid (fun _ _ q=>Heap.get?_push_of_some _ q) (Nat.le_refl _) ⟨hz,its,0,hv,Heap.get?_push_size _ rfl⟩
theorem Inv.fresh (I:Inv X pins σ H s):H s.heap.objs.size=none:=I.hok.fresh (Nat.le_refl _)
theorem Inv.lstM (I:Inv X pins σ H s)(hH:H l=some (.lst xs)):xs.length<=sizeLine/\∃(its:List Value)(n:Nat),Vals xs its/\xs.length=its.length/\s.heap.get? l=some { cls:=.type "list",data:=.seq its.toArray n }:=by
 obtain⟨z,its,n,r,e⟩:=I.hok l _ hH;exact⟨z,its,n,r,r.length,e⟩
theorem notLongL {n:Nat}(h:n<=sizeLine):Builtin.List.listTooLong n=false:=by
 unfold Builtin.List.listTooLong;exact decide_eq_false (by omega)
end
section
variable {X:Cx}
def rAppend:V->List V->Hp->VK->Prop:=fun x vs H Q=>∃ l xs y,x=.ref l/\vs=[y]/\H l=some (.lst xs)/\xs.length<sizeLine/\Q .non (upd H l (.lst (xs++[y])))
theorem zeh:MtM X "list.append" rAppend:=by
 intro pins s σ H x vs v us Q I rx rv h;obtain⟨l,xs,y,rfl,rfl,hH,hz,q⟩:=h;cases rx;obtain⟨u,rfl,ru⟩:=rv.one;obtain⟨z,its,n,r,hl,e⟩:=I.lstM hH;refine call_meets F.slot_list_append ⟨_,e,rfl⟩ F.entry_list_append (F.args_list_append_2 _ _) (PySem.list_append l its.toArray n u (by rw[List.size_toArray];omega)) ⟨e,?_⟩;refine⟨.non,_,I.lset (its':=its++[u]) hH e (by simp) (r.append (.cons ru .nil)) ?_,rfl,q⟩;rw[List.length_append,List.length_singleton];omega
def rExtend:V->List V->Hp->VK->Prop:=fun x vs H Q=>∃ l b xs zs,x=.ref l/\vs=[.ref b]/\H l=some (.lst xs)/\H b=some (.lst zs)/\xs.length+zs.length<=sizeLine/\Q .non (upd H l (.lst (xs++zs)))
theorem mt_extend:MtM X "list.extend" rExtend:=by
 intro pins s σ H x vs v us Q I rx rv h;obtain⟨l,b,xs,zs,rfl,rfl,hH,hB,hz,q⟩:=h;cases rx;obtain⟨u,rfl,ru⟩:=rv.one;cases ru;obtain⟨z,its,n,r,hl,e⟩:=I.lstM hH;obtain⟨z2,its2,n2,r2,hl2,e2⟩:=I.lstM hB;have hsz:its.toArray.size+its2.toArray.size<=sizeLine:=by rw[List.size_toArray,List.size_toArray];omega
 have hlong:¬ (!its.toArray.isEmpty&&Builtin.List.listTooLong (its.toArray.size+its2.toArray.size))=true:=by
  rw[notLongL hsz,Bool.and_false];exact Bool.false_ne_true
 refine call_meets F.slot_list_extend ⟨_,e,rfl⟩ F.entry_list_extend (F.args_list_extend_2 _ _)
  (AutoSeq1.list_extend_list_list_0 l its.toArray n b its2.toArray n2 hlong (by rw[List.size_toArray];omega) (by omega)) ⟨e,e2,?_⟩
 refine⟨.non,_,I.lset (its':=its++its2) hH e (by simp) (r.append r2) ?_,rfl,q⟩;rw[List.length_append];omega
def rPop:V->List V->Hp->VK->Prop:=fun x vs H Q=>∃ l xs y,x=.ref l/\vs=[]/\H l=some (.lst xs)/\xs[xs.length-1]?=some y/\Q y (upd H l (.lst xs.dropLast))
theorem znK:MtM X "list.pop" rPop:=by
 intro pins s σ H x vs v us Q I rx rv h;obtain⟨l,xs,y,rfl,rfl,hH,hy,q⟩:=h;cases rx;have hus:=rv.zero;subst hus;obtain⟨z,its,n,r,hl,e⟩:=I.lstM hH;obtain⟨u,hu,ru⟩:=r.get hy
 have hy':its.toArray[its.toArray.size-1]?=some u:=by
  show its.toArray[its.length-1]?=some u;rw[<- Array.getElem?_toList,<- hl];exact hu
 refine call_meets F.slot_list_pop ⟨_,e,rfl⟩ F.entry_list_pop (F.args_list_pop_1 _) (MeetsSeq.list_pop_last l its.toArray n u hy' (by rw[List.size_toArray];omega)) ⟨e,?_⟩;refine⟨y,_,I.lset (its':=its.dropLast) hH e ?_ r.dropLast ?_,ru,q⟩
 ·show its.toArray.eraseIdxIfInBounds (its.toArray.size-1)=its.dropLast.toArray;rw[List.size_toArray,List.eraseIdxIfInBounds_toArray,zgc]
 ·rw[List.length_dropLast];omega
def rPopAt:V->List V->Hp->VK->Prop:=fun x vs H Q=>∃ l xs i k y,x=.ref l/\vs=[.int i]/\H l=some (.lst xs) /\ -(2 ^ 63)<=i/\i<2 ^ 63/\seqIndex? i xs.length=some k/\xs[k]?=some y/\Q y (upd H l (.lst (xs.eraseIdx k)))
theorem zjc:MtM X "list.pop" rPopAt:=by
 intro pins s σ H x vs v us Q I rx rv h;obtain⟨l,xs,i,k,y,rfl,rfl,hH,h1,h2,hk,hy,q⟩:=h;cases rx;obtain⟨u,rfl,ru⟩:=rv.one;obtain⟨t,rfl⟩:=ru;obtain⟨z,its,n,r,hl,e⟩:=I.lstM hH;obtain⟨w,hw,rw'⟩:=r.get hy
 refine call_meets F.slot_list_pop ⟨_,e,rfl⟩ F.entry_list_pop (F.args_list_pop_2 _ _)
  (MeetsSeq.list_pop_at l its.toArray n i t k w (fitsIndex_both h1 h2) (by rw[List.size_toArray,<- hl];exact hk) (by rw[<- Array.getElem?_toList];exact hw) (by rw[List.size_toArray];omega)) ⟨e,?_⟩
 refine⟨y,_,I.lset (its':=its.eraseIdx k) hH e ?_ (r.eraseIdx k) ?_,rw',q⟩
 ·show its.toArray.eraseIdxIfInBounds k=(its.eraseIdx k).toArray;rw[List.eraseIdxIfInBounds_toArray]
 ·have:=zek xs k;omega
def rCat:R2:=fun x y H Q=>∃ l b xs zs,x=.ref l/\y=.ref b/\H l=some (.lst xs)/\H b=some (.lst zs)/\xs.length+zs.length<=sizeLine/\∀ p,H p=none->Q (.ref p) (upd H p (.lst (xs++zs)))
theorem zkc:OpR X (binaryOp .Add) rCat:=by
 intro pins s σ H x y v u Q I rx ry h;obtain⟨l,b,xs,zs,rfl,rfl,hH,hB,hz,q⟩:=h;cases rx;cases ry;obtain⟨z,its,n,r,hl,e⟩:=I.lstM hH;obtain⟨z2,its2,n2,r2,hl2,e2⟩:=I.lstM hB;refine PySem.P.add_list e e2 ?_ (by rw[List.size_toArray,List.size_toArray];omega);have ea:its.toArray++its2.toArray=(its++its2).toArray:=by simp
 rw[ea];exact⟨.ref _,_,I.lnew (t':=s.toks) (r.append r2) (by rw[List.length_append];omega),rfl,q _ I.fresh⟩
def rRep:R2:=fun x y H Q=>∃ l k xs,x=.ref l/\y=.int k/\H l=some (.lst xs) /\ -(2 ^ 63)<=k/\k<2 ^ 63/\xs.length*k.toNat<=sizeLine /\
 ∀ p,H p=none->Q (.ref p) (upd H p (.lst (List.replicate k.toNat xs).flatten))
theorem zlm {α:Type}(xs:List α)(k:Nat):(List.replicate k xs).flatten.length=k*xs.length:=by
 induction k with
 |zero=>simp
 |succ k ih=>rw[List.replicate_succ,List.flatten_cons,List.length_append,ih,Nat.succ_mul,Nat.add_comm]
theorem znC:OpR X (binaryOp .Mult) rRep:=by
 intro pins s σ H x y v u Q I rx ry h;obtain⟨l,k,xs,rfl,rfl,hH,h1,h2,hz,q⟩:=h;cases rx;obtain⟨t,rfl⟩:=ry;obtain⟨z,its,n,r,hl,e⟩:=I.lstM hH;have hlen:its.toArray.size*k.toNat<=sizeLine:=by rw[List.size_toArray,<- hl];exact hz
 have hcap:¬ its.toArray.size*k.toNat > (2 ^ 63-1) / 8:=by
  have:(sizeLine:Nat)<=(2 ^ 63-1) / 8:=by decide
  omega
 have hfit:¬ (!Builtin.List.listFitsIndex k)=true:=by
  rw[fitsIndex_both h1 h2];exact Bool.false_ne_true
 have hlong:¬ Builtin.List.listTooLong (its.toArray.size*k.toNat)=true:=by
  rw[notLongL hlen];exact Bool.false_ne_true
 have hnew:List.foldl (fun x1 x2=>x1++x2) #[] (List.replicate (if its.toArray.isEmpty=true then 0 else k.toNat) its.toArray)=(List.replicate k.toNat its).flatten.toArray:=by
  have f0:∀ m:Nat,List.foldl (fun x1 x2=>x1++x2) #[] (List.replicate m its.toArray)=(List.replicate m its).flatten.toArray:=fun m=>by
   have:=zew its m [];rw[List.nil_append] at this;exact this
  rw[f0]
  cases its with
  |nil=>simp
  |cons a r'=>rw[if_neg (by simp)]
 refine wpAny_binaryOp_repeat_ref (T:="list") (U:="int") (by decide) ⟨_,e,rfl⟩ (fun s'=>typeIs_int s' k t) noFill_list_mul F.fills_int_mul F.slot_int_rmul repeat_list F.slot_int_index.lookup
  (call_meets F.slot_int_rmul (typeIs_int s k t) F.entry_int_rmul (F.args_int_rmul_2 _ _) (int___rmul___int_list k t l its.toArray n)
   ⟨e,rfl,⟨_,e,rfl⟩,call_meets F.slot_list_mul ⟨_,e,rfl⟩ F.entry_list_mul (F.args_list_mul_2 _ _) (AutoListH.list___mul___list_int_3 l its.toArray n k t hfit hcap hlong) ⟨e,?_⟩⟩)
 rw[hnew];exact⟨.ref _,_,I.lnew (t':=s.toks) (r.rep k.toNat) (by rw[zlm,Nat.mul_comm];exact hz),rfl,q _ I.fresh⟩
end
section
variable {prog:Program}{w:World}{A:Around}{E:Value->Shared->Prop}{s:Shared}
set_option maxRecDepth 100000 in
end
section
variable {X:Cx}
end
end L2
namespace Att
open PySem PySem.W PySem.Calls PyProof.Rows
theorem zcX {P:Params}{h:Heap}:∀(ns:List Int)(vs:List Value),WellAll P h vs (ns.map WData.int)->IntsAre vs ns:=by
 intro ns
 induction ns with
 |nil=>
  intro vs w;rw[List.map_nil] at w;cases w;exact .nil
 |cons n ns ih=>
  intro vs w;rw[List.map_cons] at w
  cases w with
  |cons a b=>
   cases a;exact .cons _ _ (ih _ b)
theorem zgF {l:OpenLaw}{n:Nat}(hn:l.most=some n){P:Params}{h:Heap}{args:List WData}{vals:List Value}
  (hpre:l.row.toRowW.claim.pre args=true)(hwl:WellAll P h vals args) :
  ∃ a vs ns,vals=[Value.ref a]/\args=[WData.list (ns.map WData.int)]/\h.get? a=some { cls:=.type "list",data:=.seq vs.toArray }/\IntsAre vs ns/\ns.length<=n:=by
 have hsh:WShape.hasAll [] args [.list .int]=true:=(pre_splitW hpre).1;have hc:l.pre.holds [] { args:=args }=true:=(pre_splitW hpre).2;obtain⟨d,r,rfl,h1,h2⟩:=hasAllW_cons hsh;obtain rfl:=hasAllW_nil h2;obtain⟨xs,rfl,h3⟩:=hasW_list h1;obtain⟨ns,rfl⟩:=items_int h3
 have hlen:ns.length<=n:=by
  unfold OpenLaw.pre at hc
  have h4:(WTm.not (.lt (.lit (.int (n:Int))) (.len (.arg 0)))).holds [] { args:=[.list (ns.map .int)] }=true:=by
   have h4:=(holds_andW hc).1;rw[hn] at h4;exact h4
  have h5:=condW_of h4 (w_not (w_lt w_lit (w_len_list (w_arg rfl))));rw[List.length_map] at h5;refine Nat.le_of_not_lt fun q=>?_;have q':(n:Int)<((ns.length:Nat):Int):=by omega
  first
   |(rw[decide_eq_true q'] at h5;exact absurd h5 (by decide))
   |(simp at h5;omega)
 cases hwl with
 |cons w1 w2=>
  cases w2
  cases w1 with
  |list ho hall=>exact⟨_,_,ns,rfl,rfl,ho,zcX ns _ hall,hlen⟩
theorem zgV (l:OpenLaw)(args:List WData):l.row.toRowW.claim.post args (.bool true) args=true:=
 postW_of (r:=l.row.toRowW) (X:=(true==true))
  (show WShape.has [] (.bool true) .bool=true by first|rfl|decide|simp [WShape.has,WShape.arms,WShape.armsAll])
  (show(WTm.eq .res (.lit (.bool true))).value [] { args:=args,res:=some (.bool true),after:=args }=some (.bool (true==true)) from w_eq_bool (w_res rfl) w_lit) rfl
theorem attach_call {l:OpenLaw}{n:Nat}{q:Program}{loose:List Str}{XP:(Str->Option Value)->Heap->Prop}{YP:World->Heap->Prop}{d:DefRec}
  (hn:l.most=some n)(hdf:d.params.defaults=[])
  (call:∀(w:World)(s₀ s₁:Shared)(mg mb:Str->Option Value)(fa:Addr)(o:Obj)(pm cd doc:Value)(a:Addr)(vs:List Value)(ns:List Int),
   Ground q loose [] XP w s₀ mg mb s₁.heap->YP w s₁.heap ->
   s₁.heap.get? fa=some o->o.data=.func (docDef d.name d.params d.body d.scope pm cd doc)->s₁.heap.CodeRec cd d.name->mg d.name=some (.ref fa) ->
   s₁.heap.get? a=some { cls:=.type "list",data:=.seq vs.toArray }->IntsAre vs ns->ns.length<=n->s₁.gens=#[] ->
   codeAny (model l.prog w) callerA (.call (.ref fa) ⟨[.ref a],[]⟩) (fun r s'=>r=.ok (.ret (.bool true))/\OldK s₁.heap s'.heap/\s'.os=s₁.os/\AllBare s'.gens) s₁) :
  WalkO q loose XP YP l.row.toRowW d [] (fun f vs=>PySem.call f vs):=by
 intro w s₀ s₁ mg mb G Y fa o pm cd doc dV kV ho hd hcd hD hmg hg args vals as hpre hlay hrd hwl hlo;obtain rfl:dV=.none:=Dflts.none hD hdf;obtain rfl:kV=.none:=Dflts.noKw hD;obtain⟨a,vs,ns,rfl,rfl,hobj,hints,hlen⟩:=zgF hn hpre hwl;refine enter_call (codeAny_mono (call w s₀ s₁ mg mb fa o pm cd doc a vs ns G Y ho (fd_plain hd) hcd hmg hobj hints hlen hg) fun r s' hq=>?_);obtain⟨rfl,h2,h3,h4⟩:=hq;exact⟨.inl ⟨.bool true,.bool true,[],rfl,fun _=>rfl,.bool true,zgV l _,fun _=>⟨List.Pairwise.nil,fun _ hm=>(nomatch hm)⟩⟩,h2,h3,h4⟩
section
variable {prog:Program}{w:World}{A:Around}{E:Value->Shared->Prop}{s:Shared}{K:Frag}
end
end Att
namespace L2
open PySem PySem.Spec PyProof.Rows
theorem zdW:∀{vs:List Value}{ns:List Int},IntsAre vs ns->Vals (ns.map V.int) vs
 |_,_,.nil=>.nil
 |_,_,.cons n t h=>.cons ⟨t,rfl⟩ (zdW h)
def Only (H:Hp):Prop:=∀ b,H b=none\/∃ o xs,H b=some (.frz o (.lst xs))
theorem zjf {P:Program}{w:World}{K:Frag}{mg mb:Str->Option Value}{CX:CXT}{k:Nat}{fa a:Addr}{fd:FuncData}{x:Str}{sp:Sp}{s₁:Shared}{vs:List Value}{ns:List Int}
  (KX:K.In s₁.heap)(hns:s₁.heap.Ns mainGlobals mg)(hb:s₁.heap.Ns builtinsNs mb)(hbb:∀ x:Str,x≠"__name__"->mb x=bootBuiltins x)(hlim:s₁.heap.NoLimit)(hg:s₁.gens=#[])
  (ha:s₁.heap.get? a=some { cls:=.type "list",data:=.seq vs.toArray })(hi:IntsAre vs ns)(hl:ns.length<=sizeLine)(hr:Room k callerA)
  (F:∀ base:Heap,K.In base->base.Ns mainGlobals mg->FnOk P w K mg base CX k fa fd [x] sp)(hbind:∀(s:Shared)(u:Value),BindsTo s fd ⟨[u],[]⟩ [(x,u)])
  (hsp:∀ H:Hp,Only H->SqL K H a (ns.map V.int)->sp [.ref a] H (fun v _=>v=.bl true) fun _ _ _=>False)
  (hCX:∀ H e s',CX [] H s₁ (fun _ _ _=>False) e s'->False) :
  codeAny (model P w) callerA (.call (.ref fa) ⟨[.ref a],[]⟩) (fun r s'=>r=.ok (.ret (.bool true))/\OldK s₁.heap s'.heap/\s'.os=s₁.os/\AllBare s'.gens) s₁:=by
 have rv:=zdW hi;have lenV:=hi.length
 -- from an abstract heap in which nothing but the script may be tracked
 have core:∀ H:Hp,Only H->SqL K H a (ns.map V.int)->HOk P w H s₁.heap->(∀ b,H b≠none->b=a)->(H a≠none->K.lookup a=none) ->
   codeAny (model P w) callerA (.call (.ref fa) ⟨[.ref a],[]⟩) (fun r s'=>r=.ok (.ret (.bool true))/\OldK s₁.heap s'.heap/\s'.os=s₁.os/\AllBare s'.gens) s₁:=by
  intro H hO hS hok hA hK;have base_of:∀{b:Addr}{o:Obj},s₁.heap.get? b=some o->H b=none->(hidT s₁.heap H).get? b=some o:=fun e n=>zjj e n
  have noA:∀{b:Addr}{o:Obj}{es:Array DictEntry}{ep:Nat},s₁.heap.get? b=some o->o.data=.dict es ep->H b=none:=fun {b o es ep} e d=>by
   cases q:H b with
   |none=>rfl
   |some u=>
    have e':b=a:=hA b (by rw[q];simp);subst e';rw[ha] at e;cases e;have d':Data.seq vs.toArray _=Data.dict es ep:=d;cases d'
  have nsK:∀{b:Addr}{m:Str->Option Value},s₁.heap.Ns b m->(hidT s₁.heap H).Ns b m:=fun {b m} ⟨o,es,ep,e,d,r⟩=>⟨o,es,ep,base_of e (noA e d),d,r⟩
  have hKb:K.In (hidT s₁.heap H):=fun b o e=>base_of (KX b o e) (by
   cases q:H b with
   |none=>rfl
   |some u=>
    have e':b=a:=hA b (by rw[q];simp);subst e'
    rw[hK (by rw[q];simp)] at e;cases e)
  have hM:Mod K mg (hidT s₁.heap H):=⟨hKb,nsK hns,⟨mb,nsK hb,hbb⟩,let ⟨mc,h1,h2⟩:=hlim;⟨mc,nsK h1,h2⟩⟩;have e0:Env0 P w K mg (hidT s₁.heap H) callerA [] s₁ H:=⟨rfl,hM,fun b o e=>zlf e,Nat.le_of_eq (zhF _ _),trivial,fun b hb=>absurd (show b∈([]:List Addr) from hb) (by simp),hok,.of_eq hg⟩;refine codeAny_mono ((F _ hKb (nsK hns)).run callerA [] s₁ H ⟨[.ref a],[]⟩ [.ref a] [.ref a] _ _ hr e0 (hbind s₁ (.ref a)) (.cons rfl .nil) (hsp H hO hS)) fun r s' h=>?_
  cases r with
  |error e=>exact(hCX H e s' h).elim
  |ok fl=>
   cases fl with
   |next=>exact False.elim h
   |brk=>exact False.elim h
   |cont=>exact False.elim h
   |ret u=>
    obtain⟨v,H',os,bare,un,hok',r',q⟩:=h;have q':v=.bl true:=q;subst q';obtain rfl:u=Value.bool true:=r';refine⟨rfl,OldK.of_keep fun b o e=>?_,os,bare⟩
    cases q:H b with
    |none=>exact un.keep b o e q (by intro z;exact absurd (show b∈([]:List Addr) from z) (by simp)) (by simp)
    |some u=>
     rcases hO b with z|⟨ob,xs,z⟩
     ·rw[q] at z;cases z
     ·have z2:=un.frzs b ob _ z;obtain⟨e1,_⟩:=hok b _ z;obtain⟨e2,_⟩:=hok' b _ z2;rw[e] at e1;cases e1;exact e2
 cases hk:K.lookup a with
 |some o=>
  -- the script is one of the module's own objects
  have e:=KX a o hk;rw[ha] at e;cases e;refine core (fun _=>none) (fun _=>.inl rfl) (.inr ⟨_,vs.toArray,_,hk,rfl,rfl,rfl,by rw[List.size_toArray,lenV];exact hl,by simpa using rv⟩) (fun b u z=>by have z':(none:Option HO)=some u:=z;cases z') (fun b z=>absurd rfl z) fun z=>absurd rfl z
 |none=>
  refine core (fun b=>if b=a then some (.frz { cls:=.type "list",data:=.seq vs.toArray } (.lst (ns.map V.int))) else none) (fun b=>?_) (.inl (.inr ⟨{ cls:=.type "list",data:=.seq vs.toArray },if_pos rfl⟩)) (fun b u z=>?_) (fun b z=>?_) fun _=>hk
  ·by_cases hb:b=a
   ·exact .inr ⟨_,_,if_pos hb⟩
   ·exact .inl (if_neg hb)
  ·by_cases hb:b=a
   ·have z':=(if_pos hb).symm.trans z;cases z';subst hb;exact⟨ha,by rw[List.length_map];exact hl,vs,_,rv,ha⟩
   ·have z':=(if_neg hb).symm.trans z;cases z'
  ·by_cases hb:b=a
   ·exact hb
   ·exact absurd (if_neg hb) z
end L2
namespace L2
open PySem PySem.Spec PyProof.Rows
theorem walk_of {l:PySem.W.OpenLaw}{n k:Nat}{q:Program}{loose:List Str}{XP:(Str->Option Value)->Heap->Prop}{YP:World->Heap->Prop}{d:DefRec}{K:Params->Frag}{CX:World->CXT}{sp:World->Sp}{x:Str}
  (hn:l.most=some n)(hn2:n<=sizeLine)(hdf:d.params.defaults=[])(hr:Room k callerA)
  (hY:∀(w:World)(h:Heap),YP w h->(K w.params).In h)
  (F:∀(w:World)(mg:Str->Option Value)(fa:Addr)(h:Heap),(K w.params).In h->h.Ns mainGlobals mg->mg d.name=some (.ref fa) ->
   ∃ fd:FuncData,(∀(s:Shared)(u:Value),BindsTo s fd ⟨[u],[]⟩ [(x,u)]) /\
    ∀ base:Heap,(K w.params).In base->base.Ns mainGlobals mg->FnOk l.prog w (K w.params) mg base (CX w) k fa fd [x] (sp w))
  (hsp:∀(w:World)(H:Hp)(a:Addr)(ns:List Int),ns.length<=n->Only H->SqL (K w.params) H a (ns.map V.int)->sp w [.ref a] H (fun v _=>v=.bl true) fun _ _ _=>False)
  (hCX:∀(w:World)(H:Hp)(s:Shared)(e:Value)(s':Shared),CX w [] H s (fun _ _ _=>False) e s'->False) :
  PySem.W.WalkO q loose XP YP l.row.toRowW d [] (fun f vs=>PySem.call f vs):=by
 refine Att.attach_call hn hdf fun w s₀ s₁ mg mb fa o pm cd doc a vs ns G Y ho hd hcd hmg hobj hints hlen hg=>?_;have KX:=hY w _ Y;obtain⟨fd,hb,hF⟩:=F w mg fa _ KX G.T.g hmg;exact zjf KX G.T.g G.T.b G.T.builtins G.T.nolimit hg hobj hints (Nat.le_trans hlen hn2) hr hF hb (fun H hO hS=>hsp w H a ns hlen hO hS) fun H e s'=>hCX w H s₁ e s'
end L2
namespace L2
open PySem PySem.Spec PyProof.Rows
def defArgs (s:Stmt):Arguments:=match s with
 |.FunctionDef _ a _ _ _ _ _ _ _ _=>a
 |_=>{ posonlyargs:=[],args:=[],vararg:=none,kwonlyargs:=[],kw_defaults:=[],kwarg:=none,defaults:=[] }
def defBody (s:Stmt):List Stmt:=match s with
 |.FunctionDef _ _ b _ _ _ _ _ _ _=>b
 |_=>[]
def defScope (s:Stmt):Scope:=match s with
 |.FunctionDef _ _ _ _ _ _ sc _ _ _=>sc
 |_=>{ kind:=.function,names:=[],isGenerator:=false,isCoroutine:=false }
abbrev CX0:CXT:=fun _ _ _ _ _ _=>False
abbrev E0:XK:=fun _ _ _=>False
theorem zdl {X:Cx}:Passes CX0 X E0:=fun _ _ _ _ _ _ _ h=>h.elim
structure Fun (K:Frag)(x qual:Str)(st:Stmt)(f:Addr)(fd:FuncData):Prop where
 ex:∃(oc:Value)(od:Option Addr)(kV doc pm:Value)(an:Option Addr)(cdv ct:Value)(osl:Array (Option Value)),
  fd=PySem.W.fnOf x qual (defArgs st) (defBody st) (defScope st) .none kV doc pm an cdv ct/\K.lookup f=some ⟨oc,od,.func fd,osl⟩/\PySem.W.codeIn K cdv qual=true
 kp:PySem.W.keepIn K (.ref f)=true
section
variable {P:Program}{w:World}{K:Frag}{mg:Str->Option Value}{base:Heap}
theorem Fun.ok {x qual:Str}{st:Stmt}{f:Addr}{fd:FuncData}{N ps:List Str}{k:Nat}{sp:Sp}(F:Fun K x qual st f fd)(S:FnScope N ps (defScope st))(len:∀ vs H Q E,sp vs H Q E->vs.length=ps.length)
  (hbody:∀(cdv:Value)(A:Around)(outer:List Env)(s:Shared)(H:Hp)(vs:List V)(Q:VK)(E:XK),Room k (A.deeper (envOfC qual (defScope st) s.heap.objs.size f cdv))->sp vs H Q E ->
   ∃ t,PSs (cxOf CX0 P w K mg base N qual (defScope st) f cdv A outer s H E).nox (defBody st) t/\t { nx:=fun _ H'=>Q .non H',rt:=Q } (start N vs) H):FnOk P w K mg base CX0 (k+1) f fd ps sp:=by
 obtain⟨oc,od,kV,doc,pm,an,cdv,ct,osl,rfl,lk,hcd⟩:=F.ex;refine zqn lk hcd S len fun A outer s H vs Q E hr hsp=>?_;obtain⟨t,h,q⟩:=hbody cdv A outer s H vs Q E hr hsp;exact⟨t,h.nox,q⟩
theorem Fun.binds {x qual:Str}{st:Stmt}{f:Addr}{fd:FuncData}{ps:List Str}(F:Fun K x qual st f fd)
  (h:∀(kV doc pm:Value)(an:Option Addr)(cdv ct:Value)(us:List Value),us.length=ps.length->bindArgs (PySem.W.fnOf x qual (defArgs st) (defBody st) (defScope st) .none kV doc pm an cdv ct) ⟨us,[]⟩=pure (ps.zip us)):Binds K fd ps []:=by
 obtain⟨oc,od,kV,doc,pm,an,cdv,ct,osl,rfl,lk,hcd⟩:=F.ex;exact .all (h kV doc pm an cdv ct)
theorem zoz {x qual:Str}{st:Stmt}{f:Addr}{oc:Value}{od an:Option Addr}{osl:Array (Option Value)}{kV doc pm cdv ct:Value}(l:K.lookup f=some ⟨oc,od,.func (PySem.W.fnOf x qual (defArgs st) (defBody st) (defScope st) .none kV doc pm an cdv ct),osl⟩)
  (c:PySem.W.codeIn K cdv qual=true)(k:PySem.W.keepIn K (.ref f)=true):Fun K x qual st f (PySem.W.fnOf x qual (defArgs st) (defBody st) (defScope st) .none kV doc pm an cdv ct):=⟨⟨oc,od,kV,doc,pm,an,cdv,ct,osl,rfl,l,c⟩,k⟩
end
theorem zdp {A:Around}{k:Nat}(hr:Room k A):A.units+1<cLine:=Nat.lt_of_le_of_lt (Nat.add_le_add_left (by decide:1<=64) _) hr.units
theorem zas {n:Nat}(h:n<=1000):n<sizeLine:=Nat.lt_of_le_of_lt h (by decide)
section
variable {X:Cx}
theorem pv (i:Nat){x:Str}{pos:Pos}(hN:X.N[i]?=some x:=by rfl)(hv:Vis X.env.scope x:=by first|exact Or.inl rfl|exact Or.inr (Or.inl rfl)|exact Or.inr (Or.inr rfl))(hd:(x==("__debug__":Str))=false:=by decide)
  (hcd:(x==("__classdict__":Str))=false:=by decide):PE X (.Name x pos) (tVar i):=zaM hN hv hd hcd
end
theorem iteF {A B:Prop}(h:B):if false=true then A else B:=by
 rw[if_neg Bool.false_ne_true];exact h
theorem iteT {A B:Prop}(h:A):if true=true then A else B:=by
 rw[if_pos rfl];exact h
theorem ite2 {c A B:Prop} [Decidable c] (h1:c->A)(h2:¬ c->B):if c then A else B:=by
 by_cases h:c
 ·rw[if_pos h];exact h1 h
 ·rw[if_neg h];exact h2 h
def Same (H H':Hp):Prop:=∀ b o,H b=some o->H' b=some o
theorem Same.refl (H:Hp):Same H H:=fun _ _ h=>h
section
variable {κ:Type} [DecidableEq κ]
theorem zkz {kvs:List (κ×V)}{k:κ}{v:V}(h:valV kvs k=some v):k∈kvs.map (·.1):=by
 have q:(kvs.any fun kv=>decide (kv.1=k))=true:=by
  rw[zbv,h]
  all_goals rfl
 obtain⟨p,hp,e⟩:=List.any_eq_true.mp q;exact List.mem_map.mpr ⟨p,hp,of_decide_eq_true e⟩
end
end L2
set_option maxHeartbeats 4000000
namespace L2
open PySem PySem.Spec PyProof.Rows
def subSt (k:Nat)(ix:List Nat)(σ:St):St:=List.replicate k none++ix.map fun j=>(σ[j]?).join
def cxComp (X:Cx)(N:List Str)(sc:Scope)(cl:List (Str×Addr))(C:Addr)(fp:List Addr)(s:Shared)(H:Hp):Cx:=
 { X with N:=N,s₀:=s,H₀:=H,env:=compEnvC sc cl C X.env,outer:=X.stack,ex:=fp,fn:=fun _=>false,xe:=fun _ _=>False }
structure CompScope (X:Cx)(sc:Scope)(cl:List (Str×Addr))(N:List Str)(k:Nat)(ix:List Nat):Prop where
 clos:closureFor sc X.env=pure cl
 kind:sc.kind=.function
 nocell:∀ y∈sc.names,y.2≠.cell
 names:∀ y∈sc.names,y.2=.local->sc.names.lookup y.1=some .local
 sub:∀ x c,cl.lookup x=some c->X.env.cells.lookup x=some c
 has:∀ x,((relabel sc X.env).names.lookup x=some .cell\/(relabel sc X.env).names.lookup x=some .free)->∃ c,cl.lookup x=some c
 len:N.length=k+ix.length
 caught:∀ i j x,ix[i]?=some j->N[k+i]?=some x->X.N[j]?=some x/\(X.env.kindOf x=some .cell\/X.env.kindOf x=some .free) /\
  ((relabel sc X.env).names.lookup x=some .cell\/(relabel sc X.env).names.lookup x=some .free)
section
variable {X:Cx}{pins:List (Addr×Obj)}{σ:St}{H:Hp}{s:Shared}{sc:Scope}{cl:List (Str×Addr)}{N:List Str}{k:Nat}{ix:List Nat}{C:Addr}{fp:List Addr}
theorem zib (S:CompScope X sc cl N k ix)(I:Inv X pins σ H s)(hC:C=s.heap.objs.size)(hf:∀ b∈fp,FpOk X pins H b/\b<s.heap.objs.size):(cxComp X N sc cl C fp s H).Ok where
 mod:=I.ok.mod
 kind:=S.kind
 glob:=I.ok.glob
 blt:=I.ok.blt
 above:=by subst hC;exact Nat.le_refl _
 inj:=fun x y c h1 h2=>I.ok.inj x y c (S.sub x c h1) (S.sub y c h2)
 has:=S.has
 cab:=fun _ _ h=>by cases h
 hd:=I.ok.hd
 frames:=I.ok.frames
 stk:=.inl rfl
 exf:=fun b hb=>⟨by subst hC;exact Nat.ne_of_lt (hf b hb).2,fun x c e=>(hf b hb).1.2.2.2.2.1 x c (S.sub x c e)⟩
 bs:=I.bs
 bsz:=Nat.le_trans I.ok.bsz I.sz
 noex:=fun b o e hb=>by
  obtain⟨_,_,_,h1,_⟩:=(hf b hb).1;rcases h1 with z|z
  ·exact I.ok.noex b o e z
  ·exact absurd (Nat.lt_of_lt_of_le (Heap.lt_size e) (Nat.le_trans I.ok.bsz z)) (Nat.lt_irrefl _)
 exfs:=fun b hb hz=>by
  obtain⟨_,h1,h2,_⟩:=(hf b hb).1;exact(List.mem_cons.mp (I.stkSub b hz)).elim h1 h2
 funs:=I.stack
 frf:=I.stkFree
theorem zgx {i:Nat}{v:V}(h:(subSt k ix σ)[i]?=some (some v)):∃ i' j,i=k+i'/\ix[i']?=some j/\σ[j]?=some (some v):=by
 unfold subSt at h;by_cases hi:i<k
 ·rw[List.getElem?_append_left (by simpa using hi),List.getElem?_replicate,if_pos hi] at h;cases h
 ·rw[List.getElem?_append_right (by simpa using (Nat.le_of_not_lt hi)),List.length_replicate,List.getElem?_map] at h
  cases e:ix[i-k]? with
  |none=>rw[e] at h;cases h
  |some j=>
   rw[e] at h;have h2:(σ[j]?).join=some v:=Option.some.inj h;refine⟨i-k,j,by omega,e,?_⟩
   cases e2:σ[j]? with
   |none=>rw[e2] at h2;cases h2
   |some o=>rw[e2] at h2;exact congrArg some h2
theorem zeE {h₁:Heap}{tk:Nat}{m:Str->Option Value}(S:CompScope X sc cl N k ix)(I:Inv X pins σ H s)(hC:C=s.heap.objs.size)(hf:∀ b∈fp,FpOk X pins H b/\b<s.heap.objs.size)
  (hn:h₁.Ns C m)(kp:∀ b o,s.heap.get? b=some o->h₁.get? b=some o):Inv (cxComp X N sc cl C fp s H) pins (subSt k ix σ) H { s with heap:=h₁,toks:=tk } where
 ok:=zib S I hC hf
 os:=rfl
 bare:=I.bare
 base:=Un.kept kp
 loc:=by
  refine⟨m,hn,fun i x v e1 e2 _=>?_⟩;obtain⟨i',j,rfl,e3,e4⟩:=zgx e2;obtain⟨n1,k1,k2⟩:=S.caught i' j x e3 e1;obtain⟨mX,_,hl⟩:=I.loc
  have vis:Vis X.env.scope x:=by
   rcases k1 with z|z
   ·exact .inr (.inl z)
   ·exact .inr (.inr z)
  obtain⟨u,r,l⟩:=hl j x v n1 e4 vis;refine⟨u,r,.inr ⟨k2,?_⟩⟩;rcases l with ⟨z,_⟩|⟨_,c,z,o,ho,hd⟩
  ·rcases k1 with y|y
   ·rw[y] at z;cases z
   ·rw[y] at z;cases z
  ·obtain⟨c',hc'⟩:=S.has x k2;have q:=S.sub x c' hc';rw[z] at q;cases q;exact⟨c,hc',o,kp _ _ ho,hd⟩
 cell:=fun x c e=>by
  obtain⟨v,o,ho,hd⟩:=I.cell x c (S.sub x c e);exact⟨v,o,kp _ _ ho,hd⟩
 free:=by
  show H C=none;rw[hC];exact I.hok.fresh (Nat.le_refl _)
 freeC:=fun x c e=>I.freeC x c (S.sub x c e)
 pin:=fun p hp=>by
  obtain⟨e,n,ne,nf,d⟩:=I.pin p hp;refine⟨kp _ _ e,n,?_,fun hz=>(List.mem_cons.mp (I.stkSub _ hz)).elim ne nf,d⟩;show p.1≠C;rw[hC];exact Nat.ne_of_lt (Heap.lt_size e)
 hok:=I.hok.kept kp
 len:=by
  show(subSt k ix σ).length=N.length;unfold subSt;rw[S.len,List.length_append,List.length_replicate,List.length_map]
theorem zfn {C':Addr}{σ':St}{H':Hp}{s':Shared}(I:Inv X pins σ H s)(hf:∀ b∈fp,FpOk X pins H b)(J:Inv (cxComp X N sc cl C' fp s H) pins σ' H' s'):Inv X pins σ H' s':=
 I.call' J.os J.base J.hok J.bare fun b hb=>⟨(hf b hb).2.2.2.1,(hf b hb).2.1,(hf b hb).2.2.2.2.1,(hf b hb).2.2.2.2.2⟩
end
def PIf (X:Cx)(ifs:List Expr)(t:TT):Prop:=
 ∀(pins:List (Addr×Obj))(s:Shared)(σ:St)(H:Hp)(Q:Bool->Hp->Prop),Inv X pins σ H s->t σ H Q ->
  wpAny (model X.prog X.w) X.A (forIn ifs true fun c r=>if r=true then do let ok <- isTrue c X.env (eval c X.env);pure (ForInStep.yield ok) else pure (ForInStep.yield r)) (TP X pins σ Q) X.xe s
def tYes:TT:=fun _ H Q=>Q true H
theorem zno {X:Cx}:PIf X [] tYes:=fun _ _ _ H _ I h=>wpAny_tests_nil ⟨H,I,h⟩
theorem znn {X:Cx}{c:Expr}{t:TT}(h:PT X c t):PIf X [c] t:=fun pins s σ H Q I q=>wpAny_tests_one (h pins s σ H Q I q)
def bComp (J:It)(g:TG)(tI:TT)(te:TE)(acc:Addr)(Q:VK)(σ:St)(H:Hp):Prop:=
 ∃ W:Nat->Nat->St->Hp->Prop,(∃ m,W 0 m σ H)/\∀ i m σ' H',W i m σ' H' ->
  (J.stop i H'/\Q (.ref acc) H')\/(J.go i H'/\∃ N:St->Hp->Prop,(∀ σ2 H2,N σ2 H2->∃ m',m'<m/\W (i+1) m' σ2 H2) /\
   ∀ x H2,J.yld i H' x H2->g x σ' H2 fun σ3 H3=>tI σ3 H3 fun b H4=>if b=true then te σ3 H4 fun y H5=>∃ ys,H5 acc=some (.lst ys)/\ys.length<sizeLine/\N σ3 (upd H5 acc (.lst (ys++[y]))) else N σ3 H4)
section
variable {X:Cx}{elt tg iter:Expr}{ifs:List Expr}{pos:Pos}{sc:Scope}{cl:List (Str×Addr)}{N:List Str}{k:Nat}{ix:List Nat}{g:TG}{tI:TT}{te:TE}{wi:TI}
theorem zdz {pins:List (Addr×Obj)}{σ:St}{H:Hp}{s2:Shared}{it:Addr}{fp:List Addr}{tn:Nat->Heap->Prop}{J:It}{Q:VK}{E:Value->Shared->Prop}{RR:Value->Addr->Result->Shared->Prop}
  (S:CompScope X sc cl N k ix)(hc:X.calm=true)(hg:∀ C fp s H,PG (cxComp X N sc cl C fp s H) tg g)(hi:∀ C fp s H,PIf (cxComp X N sc cl C fp s H) ifs tI)(he:∀ C fp s H,PE (cxComp X N sc cl C fp s H) elt te)
  (I:Inv X pins σ H s2)(T:Turn X.prog X.w X.K tg J fp it tn)(st:tn 0 s2.heap)(ff:∀ b∈fp,FpOk X pins H b)
  (q:∀ acc,H acc=none->bComp J g tI te acc Q (subSt k ix σ) (upd H acc (.lst [])))
  (hRR:∀(acc C:Addr)(H':Hp)(s':Shared),Inv X pins σ H' s'->FpOk X pins H' C->(∃ m,s'.heap.Ns C m)->Q (.ref acc) H'->RR (.ref acc) C (.ok .next) s') :
  wpAny (model X.prog X.w) X.A (newList []) (fun acc s₃=>wpAny (model X.prog X.w) X.A (newFunctionEnv sc X.env.globals cl [] X.env.qual none .none (some X.env)) (fun cenv s₄=>
   codeAny (model X.prog X.w) X.A (.compStart (.ListComp elt [⟨tg,iter,ifs,0⟩] sc pos) 0 (.ref it) acc { cenv with scope:=relabel sc X.env }) (RR acc cenv.locals) s₄) E s₃) E s2:=by
 refine wpAny_newObj_type (wpAny_newFunctionEnv S.nocell (fun y hy=>nomatch hy) (fun h₁ hns₁ hsb₁=>?_) S.kind);dsimp only at hns₁ hsb₁ ⊢;have I3:Inv X pins σ (upd H s2.heap.objs.size (.lst [])) { s2 with heap:=s2.heap.push { cls:=.type "list",data:=.seq ([]:List Value).toArray },toks:=s2.toks }:=I.lnew (ys:=[]) (its:=[]) .nil (by decide);have hfree:H s2.heap.objs.size=none:=I.hok.fresh (Nat.le_refl _)
 have hlt:∀ b∈fp,b<s2.heap.objs.size:=fun b hb=>by
  obtain⟨o,e,_⟩:=T.obj 0 _ st b hb;exact Heap.lt_size e
 have hsz:(s2.heap.push { cls:=.type "list",data:=.seq ([]:List Value).toArray }).objs.size=s2.heap.objs.size+1:=Heap.size_push ..
 have ff3:∀ b∈fp,FpOk X pins (upd H s2.heap.objs.size (.lst [])) b:=fun b hb=>by
  obtain⟨f0,f1,f2,f3,f4,f5⟩:=ff b hb;exact⟨by rw[zad (Nat.ne_of_lt (hlt b hb))];exact f0,f1,f2,f3,f4,f5⟩
 obtain⟨W,⟨m0,w0⟩,turn⟩:=q _ hfree
 have kp:∀ b o,(s2.heap.push { cls:=.type "list",data:=.seq ([]:List Value).toArray }).get? b=some o->h₁.get? b=some o:=fun b o e=>
  hsb₁.extBut b o (Nat.ne_of_lt (Heap.lt_size e)) (Heap.get?_push_of_some _ e)
 have I4:=zeE (h₁:=h₁) (tk:=s2.toks+([]:List (Str×Value)).length) (fp:=fp) S I3 rfl (fun b hb=>⟨ff3 b hb,by
  show b<(s2.heap.push _).objs.size;rw[hsz]
  exact Nat.lt_succ_of_lt (hlt b hb)⟩) hns₁ kp
 have st4:tn 0 h₁:=T.keep 0 _ _ st fun b _ o e=>kp b o (Heap.get?_push_of_some _ e);generalize hC:(s2.heap.push { cls:=.type "list",data:=.seq ([]:List Value).toArray }).objs.size=C at *;generalize hX:cxComp X N sc cl C fp { s2 with heap:=s2.heap.push { cls:=.type "list",data:=.seq ([]:List Value).toArray },toks:=s2.toks } (upd H s2.heap.objs.size (.lst []))=Y at I4
 have loop:∀ s':Shared,s'={ s2 with heap:=h₁,toks:=s2.toks+([]:List (Str×Value)).length } ->
   codeAny (model X.prog X.w) X.A (.compLoop (.ListComp elt [⟨tg,iter,ifs,0⟩] sc pos) 0 (.ref it) (.ref s2.heap.objs.size) (compEnvC sc cl C X.env)) (RR (.ref s2.heap.objs.size) C) s':=by
  rintro s' rfl;refine codeAny_loop rfl (fun n s'=>∃ i σ' H',Inv Y pins σ' H' s'/\tn i s'.heap/\(∀ b∈fp,H' b=none)/\W i n σ' H') (fun n s3 hI=>?_) m0 ⟨0,_,_,I4,st4,fun b hb=>(ff3 b hb).1,w0⟩;obtain⟨i,σ3,H3,J3,st3,fr3,w3⟩:=hI;show wpAny _ _ ((compTurn (.ListComp elt [⟨tg,iter,ifs,0⟩] sc pos) 0 (.ref it) (.ref s2.heap.objs.size) (compEnvC sc cl C X.env)).onRaise (fun x=>do noteFrame x (compEnvC sc cl C X.env);theTreesLotGoes x)) _ _ s3;refine wpAny_noted ?_;rw[compTurn_list]
  have stat:∀{H':Hp},(∀ b∈fp,H' b=none)->∀ b∈fp,FpOk Y pins H' b:=fun hn b hb=>by
   obtain⟨f0,f1,f2,f3,f4,f5⟩:=ff3 b hb;subst hX;refine⟨hn b hb,?_,fun hz=>(List.mem_cons.mp (I3.stkSub b hz)).elim f1 f2,.inl hb,fun x c e=>f4 x c (S.sub x c e),f5⟩;show b≠C;rw[hsz];exact Nat.ne_of_lt (Nat.lt_succ_of_lt (hlt b hb))
  have eX:Y.prog=X.prog/\Y.w=X.w/\Y.K=X.K/\Y.calm=X.calm/\Y.A=X.A/\Y.env=compEnvC sc cl C X.env/\Y.xe=fun _ _=>False:=by
   subst hX;exact⟨rfl,rfl,rfl,rfl,rfl,rfl,rfl⟩
  obtain⟨y1,y2,y3,y4,y5,y6,y7⟩:=eX;have hgY:PG Y tg g:=hX▸hg _ _ _ _;have hiY:PIf Y ifs tI:=hX▸hi _ _ _ _;have heY:PE Y elt te:=hX▸he _ _ _ _
  have no:∀{α:Type}{m:Sem α}{P:α->Shared->Prop}{E':Value->Shared->Prop}{s':Shared},wpAny (model Y.prog Y.w) Y.A m P Y.xe s'->wpAny (model X.prog X.w) X.A m P E' s':=fun {α m P E' s'} h=>by
   rw[y1,y2,y5,y7] at h;exact wpAny_mono h (fun _ _ z=>z) fun _ _ z=>z.elim
  rcases turn i n σ3 H3 w3 with ⟨stop,qn⟩|⟨go,Nx,hN,step⟩
  ·refine wpAny_bind (wpAny_standAt (wpAny_bind (wpAny_mono (no (T.done Y y1 y2 y3 (y4.trans hc) i pins s3 σ3 H3 Y.xe J3 (stat fr3) st3 stop |> fun z=>by rw[y1,y2] at *;exact z)) (fun r s4 hr=>?_) fun _ _ z=>z)));obtain⟨hr,J4⟩:=hr;subst hr;refine wpAny_pure ?_;subst hX;have J5:=zfn I3 ff3 J4;obtain⟨m,hn,_⟩:=J4.loc;exact hRR _ _ _ _ J5 (I3.fpOk (Nat.le_of_eq hC) J4.free) ⟨m,hn⟩ qn
  ·refine wpAny_bind (wpAny_standAt (wpAny_bind (wpAny_mono (no (T.item Y y1 y2 y3 (y4.trans hc) i pins s3 σ3 H3 Y.xe J3 (stat fr3) st3 go |> fun z=>by rw[y1,y2] at *;exact z)) (fun r s4 hr=>?_) fun _ _ z=>z)));obtain⟨u,hr,h4⟩:=hr;subst hr;refine wpAny_bind (wpAny_mono (no (by rw[y1,y2];exact h4)) (fun _ s5 h5=>?_) fun _ _ z=>z);obtain⟨x,H5,J5,r5,yl5,st5,fr5⟩:=h5;have J5':=J5.pinned (stat fr5) (T.obj _ _ st5);refine wpAny_bind (wpAny_mono (no (y6▸hgY _ s5 σ3 H5 x u _ J5' r5 (step x H5 yl5))) (fun _ s6 h6=>?_) fun _ _ z=>z);obtain⟨σ6,H6,J6,q6⟩:=h6;refine wpAny_bind (wpAny_mono (no (y6▸hiY _ s6 σ6 H6 _ J6 q6)) (fun ok s7 h7=>?_) fun _ _ z=>z);obtain⟨H7,J7,q7⟩:=h7
   have again:∀{s8:Shared}{H8:Hp},Inv Y (pins++pinsAt fp s5.heap) σ6 H8 s8->Nx σ6 H8->∃ m,m<n/\∃ i σ' H',Inv Y pins σ' H' s8/\tn i s8.heap/\(∀ b∈fp,H' b=none)/\W i m σ' H':=fun {s8 H8} J8 n8=>by
    obtain⟨m',hm,w8⟩:=hN σ6 H8 n8;refine⟨m',hm,i+1,σ6,H8,J8.unpinned,T.keep _ _ _ st5 fun b hb o e=>(J8.pin (b,o) (List.mem_append_right _ (List.mem_append_right _ (zbx hb e)))).1,fun b hb=>?_,w8⟩;obtain⟨o,e,d⟩:=T.obj _ _ st5 b hb;exact(J8.pin (b,o) (List.mem_append_right _ (List.mem_append_right _ (zbx hb e)))).2.1
   cases ok with
   |false=>exact wpAny_pure ⟨rfl,again J7 q7⟩
   |true=>
    refine wpAny_bind (wpAny_bind (wpAny_mono (no (y6▸heY _ s7 σ6 H7 _ J7 q7)) (fun v s8 h8=>?_) fun _ _ z=>z));obtain⟨y,H8,J8,r8,ys,ha,hl,n8⟩:=h8;refine wpAny_bind (wpAny_mono (no (zeh (X:=Y) _ s8 σ6 H8 (.ref s2.heap.objs.size) [y] (.ref s2.heap.objs.size) [v] (fun _ H9=>Nx σ6 H9) J8 rfl (.cons r8 .nil) ⟨_,ys,y,rfl,rfl,ha,hl,n8⟩)) (fun _ s9 h9=>?_) fun _ _ z=>z);obtain⟨_,H9,J9,_,n9⟩:=h9;exact wpAny_pure (wpAny_pure ⟨rfl,again J9 n9⟩)
 exact codeAny_compStart_list (loop _ rfl) (T.self _ 0 _ _ _ st4 (loop _ rfl))
def tComp (k:Nat)(ix:List Nat)(wi:TI)(g:TG)(tI:TT)(te:TE):TE:=fun σ H Q=>wi σ H fun J H1=>∀ acc,H1 acc=none->bComp J g tI te acc Q (subSt k ix σ) (upd H1 acc (.lst []))
theorem zkX (S:CompScope X sc cl N k ix)(hc:X.calm=true)(hp:PI X tg iter wi)(hg:∀ C fp s H,PG (cxComp X N sc cl C fp s H) tg g)(hi:∀ C fp s H,PIf (cxComp X N sc cl C fp s H) ifs tI)
  (he:∀ C fp s H,PE (cxComp X N sc cl C fp s H) elt te)(hs:∀ x,foldedSetIterable iter X.env x=pure x:=by intro _;rfl):PE X (.ListComp elt [⟨tg,iter,ifs,0⟩] sc pos) (tComp k ix wi g tI te):=by
 intro pins s σ H Q I h;rw[eval_ListComp];refine wpAny_comprehension_free (use:=none) rfl hs S.clos S.kind S.names (thn (hp pins s σ H _ I h) fun xv s₁ h₁=>thn h₁ fun itv s₂ h₂=>?_);obtain⟨it,fp,tn,J,H2,e,I2,T,st2,f2,q2⟩:=h₂;subst e;refine zdz (RR:=fun acc C=>compPost (model X.prog X.w) X.A X.xe none (EP X pins σ Q) acc C) S hc hg hi he I2 T st2 f2 q2 fun acc C H' s' I' fC hm hq=>?_;obtain⟨m,hn⟩:=hm;obtain⟨f0,f1,f2,f3,f4,f5⟩:=fC;exact⟨m,hn,fun h' hs'=>⟨.ref acc,H',I'.turned (t':=s'.toks) (fun b o hb e=>hs'.extBut b o hb e) f0 f1 f3 f4 f5,rfl,hq⟩⟩
def sComp (i k:Nat)(ix:List Nat)(wi:TI)(g:TG)(tI:TT)(te:TE):TS:=fun D σ H=>wi σ H fun J H1=>∀ acc,H1 acc=none->bComp J g tI te acc (fun v H2=>D.nx (σ.set i (some v)) H2) (subSt k ix σ) (upd H1 acc (.lst []))
theorem zgT {i:Nat}{y:Str}{py spos:Pos}(hN:X.N.Nodup)(hi':X.N[i]?=some y)(hy:X.env.scope.names.lookup y=some .local)
  (hsw:swapsWith (.ListComp elt [⟨tg,iter,ifs,0⟩] sc pos) (some (.Name y py)) spos.line X.env=pure true)
  (S:CompScope X sc cl N k ix)(hc:X.calm=true)(hp:PI X tg iter wi)(hg:∀ C fp s H,PG (cxComp X N sc cl C fp s H) tg g)(hi:∀ C fp s H,PIf (cxComp X N sc cl C fp s H) ifs tI)
  (he:∀ C fp s H,PE (cxComp X N sc cl C fp s H) elt te)(hs:∀ x,foldedSetIterable iter X.env x=pure x:=by intro _;rfl):PS X (.Assign [.Name y py] (.ListComp elt [⟨tg,iter,ifs,0⟩] sc pos) spos) (sComp i k ix wi g tI te):=by
 intro pins s σ H D I h;rw[exec_Assign_Name_used _ _ _ _ hsw];refine wpAny_bind (wpAny_standAt (wpAny_bind ?_));show wpAny _ X.A (do let _ <- comprehension (.ListComp elt [⟨tg,iter,ifs,0⟩] sc pos) sc X.env _ (newList []) false (eval iter X.env) (some (assign (.Name y py) X.env))) _ _ s
 refine wpAny_bind (wpAny_mono (wpAny_comprehension_free (use:=some (assign (.Name y py) X.env)) (Q:=fun _ s'=>SP X pins D .next s') rfl hs S.clos S.kind S.names
  (thn (hp pins s σ H _ I h) fun xv s₁ h₁=>thn h₁ fun itv s₂ h₂=>?_)) (fun _ s' hq=>wpAny_pure (wpAny_pure hq)) fun _ _ e=>e)
 obtain⟨it,fp,tn,J,H2,e,I2,T,st2,f2,q2⟩:=h₂;subst e;refine zdz (RR:=fun acc C=>compPost (model X.prog X.w) X.A X.xe (some (assign (.Name y py) X.env)) (fun _ s'=>SP X pins D .next s') acc C) S hc hg hi he I2 T st2 f2 q2 fun acc C H' s' I' fC hm hq=>?_;obtain⟨m,hn⟩:=hm;obtain⟨f0,f1,f2,f3,f4,f5⟩:=fC;show wpAny _ X.A (assign (.Name y py) X.env (.ref acc)) _ _ _;refine wpAny_assign_Name (zdY I' hN hi' (.inl hy) (show RelV (.ref acc) (.ref acc) from rfl) (fun s'' I'' ⟨a,hs'',ha⟩=>?_) (.inr hy))
 have hne:C≠a:=by
  rcases ha with z|z
  ·rw[z];exact f1
  ·exact fun q=>f4 y a z q.symm
 refine⟨m,hn.sameBut hs'' hne,fun h' hs'=>?_⟩;exact⟨_,H',I''.turned (t':=s''.toks) (fun b o hb e=>hs'.extBut b o hb e) f0 f1 f3 f4 f5,hq⟩
end
end L2
namespace L2
open PySem PySem.Spec PyProof.Rows
section
variable {X:Cx}
theorem zdJ:OpR X (binaryOp .FloorDiv) (rI (fun _ j=>0<j/\j<2 ^ 200) fun i j=>.int (i / j)):=opI fun i j _ _ _ _ _ hc q=>by
 have h1:(0:Int)<j:=hc.1;have h2:j<2 ^ 200:=hc.2;have h3:j.natAbs<2 ^ 200:=by omega
 have h4:j.natAbs≠0:=by omega
 have h5:j.natAbs.log2<9000:=(Nat.log2_lt h4).mpr (Nat.lt_of_lt_of_le h3 (Nat.pow_le_pow_right (by decide) (by decide)));exact floordiv_int (by omega) (by rw[Int.fdiv_eq_ediv_of_nonneg i (by omega)];exact q) (.inl (PyProof.noPylong_of_log2 h5))
theorem zbX:∀{ys:List Str}{us:List Value},Vals (ys.map V.str) us->StrsAre us ys
 |[],_,r=>by rw[List.map_nil] at r;cases r;exact .nil
 |y::ys,_,r=>by
  rw[List.map_cons] at r
  cases r with
  |cons h t=>
   obtain⟨k,rfl⟩:=h;exact .cons y k (zbX t)
end
def Its (x:Str):It:=⟨fun i _=>i<x.cps.size,fun i H y H'=>H'=H/\∃ c,x.cps[i]?=some c/\y=.str ⟨#[c]⟩,fun i _=>x.cps.size<=i⟩
theorem ziA {P:Program}{w:World}{K:Frag}{tg:Expr}(it:Addr)(x:Str)(t:Tok):Turn P w K tg (Its x) [it] it (fun i h=>h.IsStrIter it "str_ascii_iterator" x t i) where
 mem:=by simp
 obj:=fun i h st b hb=>by
  have e:b=it:=by simpa using hb
  subst e;obtain⟨o,e,c,d⟩:=st;exact⟨o,e,fun v z=>by rw[d] at z;cases z⟩
 keep:=fun i h h' st k=>by
  obtain⟨o,e,c,d⟩:=st;exact⟨o,k it (by simp) o e,c,d⟩
 item:=by
  intro X hP hw hK hc i pins s σ H E I hf st hg;subst hP hw hK;obtain⟨f0,f1,f2,f3,f4,f5⟩:=hf it (by simp);have hx:x.cps[i]?=some x.cps[i]:=Array.getElem?_eq_getElem hg;refine wpAny_pyNext_ascii_item st hx fun h' st' sb=>?_;have I1:Inv X pins σ H { s with heap:=h',toks:=s.toks+1 }:=I.turned (t':=s.toks+1) (fun b o hb e=>(sb.2 b hb).trans e) f0 f1 f3 f4 f5;obtain⟨o,e,c,d⟩:=id st';exact⟨_,rfl,zgb (s:={ s with heap:=h',toks:=s.toks+1 }) e c d (by decide) ⟨.str ⟨#[x.cps[i]]⟩,H,I1,⟨_,rfl⟩,⟨rfl,_,hx,rfl⟩,st',fun b hb=>(hf b hb).1⟩⟩
 done:=by
  intro X hP hw hK hc i pins s σ H E I hf st hg;subst hP hw hK;obtain⟨f0,f1,f2,f3,f4,f5⟩:=hf it (by simp);exact wpAny_pyNext_ascii_end (I.ok.hd hc) st (Array.getElem?_eq_none hg) fun h' eb=>⟨rfl,I.turned (t':=s.toks) (fun b o hb e=>eb b o hb e) f0 f1 f3 f4 f5⟩
 self:=fun A i s Q E st h=>by
  refine wpAny_pyIter_slot st.typeIs F.slot_str_ascii_iterator_iter (wpAny_call_entry F.slot_str_ascii_iterator_iter st.typeIs F.entry_str_ascii_iterator_iter ?_ (F.args_str_ascii_iterator_iter_1 _));show wpAny _ _ (ret (.ref it)) _ _ s;exact wpAny_pure ⟨_,rfl,"str_ascii_iterator",_,st.typeIs,F.slot_str_ascii_iterator_next.lookup,h⟩
section
variable {X:Cx}
theorem zhn:MtR X "dict.update" (fun x vs H Q=>∃ d o kvs more,x=.ref d/\vs=[.ref o]/\d≠o/\H d=some (.dK kvs)/\H o=some (.dK more)/\kvs.length+more.length<=sizeLine/\Q .non (upd H d (.dK (mergeK kvs more)))):=by
 intro pins s σ H x xs v us Q I rx rv h;obtain⟨d,o,kvs,more,rfl,rfl,hne,hd,ho,hz,q⟩:=h;cases rx;obtain⟨u,rfl,ru⟩:=zbk rv;cases ru;obtain⟨z1,n1,vs1,r1,dd1⟩:=zgh I.hok hd;obtain⟨z2,n2,vs2,r2,dd2⟩:=zgh I.hok ho
 refine call_meetsIn PySem.F.slot_dict_update dd1.typeIs PySem.F.entry_dict_update (PySem.F.args_dict_update_2 _ _) (meets_dict_update (mixKind X.prog X.w) d o hne n2)
  ⟨vs1,vs2,dd1,dd2,(by rw[<- r1.length,<- r2.length];exact hz),fun h' dd' _ hs=>?_⟩
 refine⟨.non,_,zdb (t':=s.toks) I (by rw[hd];trivial) hs ?_ (zdy (Nat.le_trans (zaK _ _) hz) n1 (KV.merge r2 r1) dd'),rfl,q⟩;obtain⟨ob,_,_,e,_⟩:=dd';exact⟨ob,e⟩
end
end L2
namespace HQ
open PySem PyProof.Rows PySem.SeqAt
section
open PySem.AutoSeq1 (wpAny_loadPart')
open PySem.MeetsSeq PySem.MeetsSeq2 PySem.MeetsSeq3
end
end HQ
namespace L2
open PySem PySem.Spec PyProof.Rows
section
variable {X:Cx}{pins:List (Addr×Obj)}{σ:St}{H:Hp}{s:Shared}
theorem zex {A:Around}{x y:V}{u v:Value}(fx:flatV x=true)(fy:flatV y=true)(rx:RelV x u)(ry:RelV y v):SeqAt.EqAt A s u v (eqV x y):=zoJ rx ry fx fy
theorem zaF (A:Around):A.in1.units=A.units+1:=rfl
theorem zhK {A:Around}{R:V->V->Bool->Prop}{xs ys:List V}{us vs:List Value}{e:Nat->Bool}(r1:Vals xs us)(r2:Vals ys vs)(he:∀(j:Nat)(x y:V),xs[j]?=some x->ys[j]?=some y->R x y (e j))
  (hR:∀ x y b u v,R x y b->RelV x u->RelV y v->SeqAt.EqAt A s u v b):∀ j (h1:j<us.toArray.size)(h2:j<vs.toArray.size),SeqAt.EqAt A s us.toArray[j] vs.toArray[j] (e j):=fun j h1 h2=>by
 have l1:=r1.length;have l2:=r2.length;have h1':j<us.length:=by simpa using h1
 have h2':j<vs.length:=by simpa using h2
 obtain⟨u,hu,ru⟩:=r1.get (i:=j) (x:=xs[j]'(by omega)) (List.getElem?_eq_getElem _);obtain⟨v,hv,rv⟩:=r2.get (i:=j) (x:=ys[j]'(by omega)) (List.getElem?_eq_getElem _)
 have eu:us.toArray[j]=u:=by
  rw[List.getElem?_eq_getElem h1'] at hu;simpa using Option.some.inj hu
 have ev:vs.toArray[j]=v:=by
  rw[List.getElem?_eq_getElem h2'] at hv;simpa using Option.some.inj hv
 rw[eu,ev];exact hR _ _ _ _ _ (he j _ _ (List.getElem?_eq_getElem _) (List.getElem?_eq_getElem _)) ru rv
end
end L2
namespace HZ
open PySem PyProof.Rows
section
variable {prog:Program}{w:World}{A:Around}{E:Value->Shared->Prop}{s:Shared}
end
end HZ
namespace L2
open PySem PySem.Spec PyProof.Rows
end L2
namespace L2
open PySem PySem.Spec PyProof.Rows
theorem bd1 {α:Type}{P:List α->Prop}(h:∀ a,P [a]):∀ us,us.length=1->P us:=fun us e=>by
 match us,e with
 |[a],_=>exact h a
theorem bd2 {α:Type}{P:List α->Prop}(h:∀ a b,P [a,b]):∀ us,us.length=2->P us:=fun us e=>by
 match us,e with
 |[a,b],_=>exact h a b
theorem bd3 {α:Type}{P:List α->Prop}(h:∀ a b c,P [a,b,c]):∀ us,us.length=3->P us:=fun us e=>by
 match us,e with
 |[a,b,c],_=>exact h a b c
theorem bd4 {α:Type}{P:List α->Prop}(h:∀ a b c d,P [a,b,c,d]):∀ us,us.length=4->P us:=fun us e=>by
 match us,e with
 |[a,b,c,d],_=>exact h a b c d
theorem bd5 {α:Type}{P:List α->Prop}(h:∀ a b c d e,P [a,b,c,d,e]):∀ us,us.length=5->P us:=fun us e=>by
 match us,e with
 |[a,b,c,d,e],_=>exact h a b c d e
section
variable {κ:Type} [DecidableEq κ]
theorem zgn {kvs:List (κ×V)}{k:κ}(h:¬ k∈kvs.map (·.1)):valV kvs k=none:=by
 cases e:valV kvs k with
 |none=>rfl
 |some v=>exact absurd (zkz e) h
theorem zdC:∀{ks:List κ}{vs:List V}{i:Nat}{k:κ}{v:V},ks.Nodup->ks[i]?=some k->vs[i]?=some v->valV (ks.zip vs) k=some v
 |[],_,_,_,_,_,hk,_=>by simp at hk
 |_::_,[],_,_,_,_,_,hv=>by simp at hv
 |a::ks,b::vs,0,k,v,nd,hk,hv=>by
  simp at hk hv;subst hk hv;exact zbM (p:=(a,b)) rfl
 |a::ks,b::vs,i+1,k,v,nd,hk,hv=>by
  have hk':ks[i]?=some k:=by simpa using hk
  have hne:¬ (a=k):=fun e=>by
   subst e;exact(List.nodup_cons.mp nd).1 (List.mem_of_getElem? hk')
  show valV ((a,b)::ks.zip vs) k=some v;rw[zbN (p:=(a,b)) hne];exact zdC (List.nodup_cons.mp nd).2 hk' (by simpa using hv)
theorem zcS:∀{ks:List κ}{vs:List V}{i:Nat}{k:κ}(v:V),ks.Nodup->ks[i]?=some k->vs.length=ks.length->(ks.zip vs).map (fun kv=>if kv.1=k then (kv.1,v) else kv)=ks.zip (vs.set i v)
 |[],_,_,_,_,_,hk,_=>by simp at hk
 |_::_,[],_,_,_,_,_,hl=>by simp at hl
 |a::ks,b::vs,0,k,v,nd,hk,hl=>by
  simp at hk;subst hk;show(if a=a then (a,v) else (a,b))::(ks.zip vs).map _=(a,v)::ks.zip vs;rw[if_pos rfl]
  congr 1
  have:∀ kv∈ks.zip vs,(if kv.1=a then (kv.1,v) else kv)=kv:=fun kv hm=>by
   rw[if_neg fun e=>(List.nodup_cons.mp nd).1 (by rw[<- e];exact(List.of_mem_zip (a:=kv.1) (b:=kv.2) hm).1)]
  conv=>rhs;rw[<- List.map_id (ks.zip vs)]
  exact List.map_congr_left this
 |a::ks,b::vs,i+1,k,v,nd,hk,hl=>by
  have hk':ks[i]?=some k:=by simpa using hk
  have hne:¬ (a=k):=fun e=>by
   subst e;exact(List.nodup_cons.mp nd).1 (List.mem_of_getElem? hk')
  show(if a=k then (a,v) else (a,b))::(ks.zip vs).map _=(a,b)::ks.zip (vs.set i v);rw[if_neg hne,zcS v (List.nodup_cons.mp nd).2 hk' (by simpa using hl)]
theorem ziN {ks:List κ}{vs:List V}{i:Nat}{k:κ}(v:V)(nd:ks.Nodup)(hk:ks[i]?=some k)(hl:vs.length=ks.length):putK (ks.zip vs) k v=ks.zip (vs.set i v):=by
 unfold putK;have hi:i<vs.length:=by rw[hl];exact(List.getElem?_eq_some_iff.mp hk).1
 have e:=zdC (vs:=vs) (v:=vs[i]) nd hk (List.getElem?_eq_getElem hi);rw[if_pos (by rw[zbv,e];rfl),zcS v nd hk hl]
end
theorem zbw:∀(more kvs:List (Key×V)),((kvs++more).map (·.1)).Nodup->mergeK kvs more=kvs++more
 |[],kvs,_=>by rw[List.append_nil];rfl
 |p::r,kvs,nd=>by
  have hn:¬ p.1∈kvs.map (·.1):=fun m=>by
   rw[List.map_append,List.map_cons] at nd;exact(List.nodup_append.mp nd).2.2 p.1 m p.1 List.mem_cons_self rfl
  show mergeK (putK kvs p.1 p.2) r=_;rw[ziO _ (zgn hn),zbw r _ (by rw[List.append_assoc];exact nd),List.append_assoc];rfl
def But (d:Addr)(H H':Hp):Prop:=∀ c o,H c=some o->c≠d->H' c=some o
theorem But.refl (d:Addr)(H:Hp):But d H H:=fun _ _ h _=>h
theorem But.trans {d:Addr}{H H1 H2:Hp}(a:But d H H1)(b:But d H1 H2):But d H H2:=fun c o h n=>b c o (a c o h n) n
theorem But.upd {d:Addr}{H H':Hp}(a:But d H H')(o:HO):But d H (L2.upd H' d o):=fun c u h n=>by rw[zad n];exact a c u h n
theorem But.seq {K:Frag}{d:Addr}{H H':Hp}{a:Addr}{xs:List V}{kvs:List (Key×V)}(b:But d H H')(hd:H d=some (.dK kvs))(h:SqL K H a xs):SqL K H' a xs:=by
 rcases h with (h|⟨o,h⟩)|h
 ·exact .inl (.inl (b _ _ h (zlj h hd (fun z=>nomatch z))))
 ·exact .inl (.inr ⟨o,b _ _ h (zlj h hd (fun z=>nomatch z))⟩)
 ·exact .inr h
theorem zal {H:Hp}{p:Addr}(h:H p=none)(o:HO):Same H (L2.upd H p o):=fun b u q=>by rw[zad (zag q h)];exact q
def SK:List Key:=[.inr "script",.inr "at",.inr "left",.inr "way",.inr "names",.inr "parts",.inr "base",.inr "turn",.inr "spot"]
theorem zml:SK.Nodup:=by decide +kernel
structure Bs where
 nm:Int
 pt:Int
 x:Str
 z:Int
 y:Int
 /-- a thing that stands as it is through the whole law: where,what (a code table: see PpClo3) -/
 tb:Option (Addr×Array Value)
def SV (a:Addr)(t l w:Int)(B:Bs):List V:=[.ref a,.int t,.int l,.int w,.int B.nm,.int B.pt,.str B.x,.int B.z,.int B.y]
theorem dget {H:Hp}{d:Addr}{vs:List V}{i:Nat}{x:Str}{v:V}(hd:H d=some (.dK (SK.zip vs)))(hk:SK[i]?=some (.inr x))(hv:vs[i]?=some v):DGet H d (.str x) (some v):=by
 have g:=DGet.k (k:=Sum.inr x) hd;rw[zdC zml hk hv] at g;exact g
theorem dput {H:Hp}{d:Addr}{vs:List V}{i:Nat}{x:Str}{v:V}(hd:H d=some (.dK (SK.zip vs)))(hl:vs.length=9)(hk:SK[i]?=some (.inr x)):DPut H d (.str x) v (L2.upd H d (.dK (SK.zip (vs.set i v)))):=by
 have e:putK (SK.zip vs) (Sum.inr x) v=SK.zip (vs.set i v):=ziN v zml hk hl;have g:=DPut.k (k:=Sum.inr x) (v:=v) hd (by rw[List.length_zip,hl];decide);rw[e] at g;exact g
structure StAt (H:Hp)(d a:Addr)(n:Nat)(B:Bs):Prop where
 ex:∃(t l w:Int),H d=some (.dK (SK.zip (SV a t l w B)))/\1<=t/\t<=(n:Int)+64/\0<=l
 tb:∀ T o,B.tb=some (T,o)->H T=some (.tbl o)/\T≠d
theorem StAt.dk {H:Hp}{d a:Addr}{n:Nat}{B:Bs}(h:StAt H d a n B):∃ kvs,H d=some (.dK kvs):=by
 obtain⟨t,l,w,e,_⟩:=h.ex;exact⟨_,e⟩
theorem StAt.same {H H':Hp}{d a:Addr}{n:Nat}{B:Bs}(h:StAt H d a n B)(s:Same H H'):StAt H' d a n B:=by
 obtain⟨t,l,w,e,r⟩:=h.ex;exact⟨⟨t,l,w,s _ _ e,r⟩,fun T o z=>⟨s _ _ (h.tb T o z).1,(h.tb T o z).2⟩⟩
theorem StAt.tbk {H:Hp}{d a:Addr}{n:Nat}{B B':Bs}{o':HO}(h:StAt H d a n B)(e:B'.tb=B.tb):∀ T o,B'.tb=some (T,o)->L2.upd H d o' T=some (.tbl o)/\T≠d:=fun T o z=>by
 obtain⟨h1,h2⟩:=h.tb T o (e▸z);exact⟨by rw[zad h2];exact h1,h2⟩
theorem StAt.tbB {H H1:Hp}{d a:Addr}{n:Nat}{B B':Bs}(h:StAt H d a n B)(b:But d H H1)(e:B'.tb=B.tb):∀ T o,B'.tb=some (T,o)->H1 T=some (.tbl o)/\T≠d:=fun T o z=>by
 obtain⟨h1,h2⟩:=h.tb T o (e▸z);exact⟨b _ _ h1 h2,h2⟩
def Scr (K:Frag)(H:Hp)(a:Addr):Prop:=∃ ns:List Int,SqL K H a (ns.map V.int)/\ns.length<=63
def spTake (K:Frag):Sp:=fun vs H Q _=>∃(d a:Addr)(n:Nat)(B:Bs)(m:Int),vs=[.ref d,.int m]/\StAt H d a n B/\Scr K H a/\n<=100000/\0<m/\m<2 ^ 200 /\
 ∀(r:Int)(H':Hp),0<=r->r<m->StAt H' d a (n+1) B->But d H H'->Q (.int r) H'
theorem zio {ns:List Int}{k:Int}(h0:0<=k)(h:k<(ns.length:Int)):∃ v:Int,atI (ns.map V.int) k=some (.int v):=by
 have hk:k.toNat<ns.length:=by omega
 have ek:k=((k.toNat:Nat):Int):=by omega
 have q:atI (ns.map V.int) ((k.toNat:Nat):Int)=some (.int ns[k.toNat]):=zmj (by rw[List.getElem?_map,List.getElem?_eq_getElem hk]<;>rfl);rw[<- ek] at q;exact⟨_,q⟩
end L2
namespace L2
open PySem PySem.Spec PyProof.Rows
def clFrom (env:Env):List (Str×NameKind)->List (Str×Addr)->List (Str×Addr)
 |[],acc=>acc
 |(n,k)::r,acc=>if (k==NameKind.free)=true then clFrom env r ((n,(env.cells.lookup n).getD 0)::acc) else clFrom env r acc
theorem zde {env:Env}:∀(names:List (Str×NameKind))(acc:List (Str×Addr)),(∀ y∈names,y.2=.free->∃ c,env.cells.lookup y.1=some c) ->
  (forIn (m:=Sem) names acc fun x cs=>match x with|(name,kind)=>if (kind==NameKind.free)=true then (do let c <- cellOf env name;pure (ForInStep.yield ((name,c)::cs))) else pure (ForInStep.yield cs))=pure (clFrom env names acc)
 |[],acc,_=>rfl
 |(n,k)::r,acc,h=>by
  rw[List.forIn_cons];by_cases hk:(k==NameKind.free)=true
  ·obtain⟨c,hc⟩:=h (n,k) List.mem_cons_self (by simpa using hk)
   have e:cellOf env n=pure c:=by
    unfold cellOf;rw[hc]
   have z:=zde r ((n,c)::acc) fun y hy=>h y (List.mem_cons_of_mem _ hy);unfold clFrom;rw[if_pos hk,hc];simp only[hk,if_true,e];exact z
  ·have z:=zde r acc fun y hy=>h y (List.mem_cons_of_mem _ hy);unfold clFrom;rw[if_neg hk];simp only[hk];exact z
theorem zmb {sc:Scope}{env:Env}(h:∀ y∈sc.names,y.2=.free->∃ c,env.cells.lookup y.1=some c):closureFor sc env=pure (clFrom env sc.names []):=by
 have z:=zde sc.names [] h;simp only[closureFor]
 first
  |(rw[z];rfl)
  |exact z
theorem zbt {env:Env}:∀(names:List (Str×NameKind))(acc:List (Str×Addr)),(∀ y∈names,y.2=.free->∃ c,env.cells.lookup y.1=some c)->(∀ p∈acc,env.cells.lookup p.1=some p.2)->∀ p∈clFrom env names acc,env.cells.lookup p.1=some p.2
 |[],acc,_,ha,p,hp=>ha p hp
 |(n,k)::r,acc,h,ha,p,hp=>by
  unfold clFrom at hp;by_cases hk:(k==NameKind.free)=true
  ·rw[if_pos hk] at hp;refine zbt r _ (fun y hy=>h y (List.mem_cons_of_mem _ hy)) (fun q hq=>?_) p hp;rcases List.mem_cons.mp hq with rfl|hq
   ·obtain⟨c,hc⟩:=h (n,k) List.mem_cons_self (by simpa using hk);show env.cells.lookup n=some ((env.cells.lookup n).getD 0);rw[show env.cells.lookup n=some c from hc];rfl
   ·exact ha q hq
  ·rw[if_neg hk] at hp;exact zbt r acc (fun y hy=>h y (List.mem_cons_of_mem _ hy)) ha p hp
theorem zbu {env:Env}:∀(names:List (Str×NameKind))(acc:List (Str×Addr)),(∀ p∈acc,p∈clFrom env names acc)
 |[],acc,p,hp=>hp
 |(n,k)::r,acc,p,hp=>by
  unfold clFrom
  split
  ·exact zbu r _ p (List.mem_cons_of_mem _ hp)
  ·exact zbu r acc p hp
theorem zcp {env:Env}:∀(names:List (Str×NameKind))(acc:List (Str×Addr))(x:Str),(x,NameKind.free)∈names->∃ c,(x,c)∈clFrom env names acc
 |[],_,_,h=>nomatch h
 |(n,k)::r,acc,x,h=>by
  unfold clFrom;rcases List.mem_cons.mp h with e|h
  ·cases e;rw[if_pos (by rfl)];exact⟨_,zbu r _ _ List.mem_cons_self⟩
  ·split
   ·exact zcp r _ x h
   ·exact zcp r acc x h
theorem zby {β:Type}{x:Str}{c:β}:∀{l:List (Str×β)},l.lookup x=some c->(x,c)∈l
 |[],h=>nomatch h
 |(n,d)::r,h=>by
  rw[List.lookup_cons] at h
  cases e:(x==n) with
  |true=>
   rw[e] at h;have q:x=n:=by simpa using e
   cases h;subst q;exact List.mem_cons_self
  |false=>
   rw[e] at h;exact List.mem_cons_of_mem _ (zby h)
theorem zdw {β:Type}{x:Str}{c:β}:∀{l:List (Str×β)},(x,c)∈l->∃ d,l.lookup x=some d
 |[],h=>nomatch h
 |(n,d)::r,h=>by
  rw[List.lookup_cons]
  cases e:(x==n) with
  |true=>exact⟨d,rfl⟩
  |false=>
   rcases List.mem_cons.mp h with q|q
   ·cases q;rw[beq_self_eq_true] at e;cases e
   ·exact zdw q
theorem compScope {X:Cx}{sc:Scope}{N:List Str}{k:Nat}{ix:List Nat}(kind:sc.kind=.function)(nocell:∀ y∈sc.names,y.2≠.cell)(names:∀ y∈sc.names,y.2=.local->sc.names.lookup y.1=some .local)
  (hfr:∀ y∈sc.names,y.2=.free->∃ c,X.env.cells.lookup y.1=some c)(len:N.length=k+ix.length)
  (caught:∀ i j x,ix[i]?=some j->N[k+i]?=some x->X.N[j]?=some x/\(X.env.kindOf x=some .cell\/X.env.kindOf x=some .free)/\((relabel sc X.env).names.lookup x=some .cell\/(relabel sc X.env).names.lookup x=some .free)) :
  CompScope X sc (clFrom X.env sc.names []) N k ix where
 clos:=zmb hfr
 kind:=kind
 nocell:=nocell
 names:=names
 sub:=fun x c h=>zbt sc.names [] hfr (fun _ hp=>nomatch hp) (x,c) (zby h)
 has:=fun x h=>by
  have free:(x,NameKind.free)∈sc.names:=by
   rcases h with h|h
   ·have m:=zby h;obtain⟨⟨n,kd⟩,hm,e⟩:=List.mem_map.mp m;dsimp only at e
    split at e
    ·rename_i hc;cases e;rw[Bool.and_eq_true,Bool.and_eq_true] at hc;have:kd=.free:=by simpa using hc.1.1
     subst this;exact hm
    ·cases e;exact absurd rfl (nocell _ hm)
   ·have m:=zby h;obtain⟨⟨n,kd⟩,hm,e⟩:=List.mem_map.mp m;dsimp only at e
    split at e
    ·cases e
    ·cases e;exact hm
  obtain⟨c,hc⟩:=zcp (env:=X.env) sc.names [] x free;exact zdw hc
 len:=len
 caught:=caught
theorem zgj {X:Cx}{sc:Scope}{N:List Str}{k:Nat}(kind:sc.kind=.function)(nocell:∀ y∈sc.names,y.2≠.cell)(nofree:∀ y∈sc.names,y.2≠.free)
  (names:∀ y∈sc.names,y.2=.local->sc.names.lookup y.1=some .local)(len:N.length=k):CompScope X sc (clFrom X.env sc.names []) N k []:=
 compScope kind nocell names (fun y hy h=>absurd h (nofree y hy)) (by simpa using len) (fun i j x h=>by simp at h)
end L2
namespace L2
open PySem PySem.Spec PyProof.Rows
section
variable {X:Cx}
theorem zhe {v:Value}{o:Option Int}(p:IsPart v o):∃ l:Option (Int×Tok),v=partValue l/\o=l.map (·.1):=by
 cases p with
 |none=>exact⟨none,rfl,rfl⟩
 |int i t=>exact⟨some (i,t),rfl,rfl⟩
theorem zmS:SlR X (fun x lo hi H Q=>∃ z,x=.str z/\z.length<=sizeLine/\Q (.str (Txt.slice z lo hi)) H):=by
 intro pins s σ H x v vl vu lo hi sl Q I rx hs pl pu h;obtain⟨z,rfl,hz,q⟩:=h;obtain⟨t,rfl⟩:=rx;obtain⟨l,rfl,rfl⟩:=zhe pl;obtain⟨u,rfl,rfl⟩:=zhe pu;refine⟨"str",_,F.slot_str_getitem.lookup,typeIs_str _ _ _,?_⟩;refine wpAny_getItem_str_slice (l:=l) (u:=u) (st:=none) hs rfl (post_val_or_str ⟨Nat.le_trans (Txt.slice_le z _ _) hz,fun t' k=>?_⟩);exact⟨.str _,H,I.kept (t':=k) fun b ob q=>q,⟨t',rfl⟩,q⟩
end
end L2
namespace K07
open PySem L2
def top (i:Nat):Stmt:=PySem.Challenge.pw_everyplan_k07_conjuncts_joined_alike.main.body.getD i (.Pass ⟨0,0,0,0⟩)
abbrev zhY:Stmt:=top 1
abbrev zbE:Stmt:=top 3
abbrev d_alike:Stmt:=top 4
abbrev zdS:Stmt:=top 5
abbrev sBegin:Stmt:=top 7
abbrev sDigit:Stmt:=top 8
abbrev sMixed:Stmt:=top 9
abbrev sTake:Stmt:=top 10
abbrev zbF:Stmt:=top 11
abbrev zcl:Stmt:=top 12
abbrev zbp:Stmt:=top 13
abbrev zaY:Stmt:=top 14
abbrev zbh:Stmt:=top 15
abbrev zbr:Stmt:=top 16
abbrev zaO:Stmt:=top 17
abbrev zck:Stmt:=top 18
abbrev zaP:Stmt:=top 19
abbrev zbK:Stmt:=top 20
abbrev zbH:Stmt:=top 21
abbrev zaX:Stmt:=top 22
abbrev zbG:Stmt:=top 23
abbrev zbj:Stmt:=top 24
abbrev zbq:Stmt:=top 25
abbrev zbL:Stmt:=top 26
abbrev zaZ:Stmt:=top 27
abbrev zbs:Stmt:=top 28
abbrev zbI:Stmt:=top 29
abbrev zcm:Stmt:=top 30
abbrev zbJ:Stmt:=top 31
abbrev zbi:Stmt:=top 32
abbrev zaD:Stmt:=top 33
abbrev zaJ:Stmt:=top 34
abbrev zaI:Stmt:=top 35
abbrev d_law:Stmt:=top 36
structure Bt (mg:Str->Option Value):Prop where
 abs:mg "abs"=none
 bool:mg "bool"=none
 dict:mg "dict"=none
 int:mg "int"=none
 isinstance:mg "isinstance"=none
 len:mg "len"=none
 list:mg "list"=none
 max:mg "max"=none
 min:mg "min"=none
 range:mg "range"=none
 reversed:mg "reversed"=none
 set:mg "set"=none
 sorted:mg "sorted"=none
 tuple:mg "tuple"=none
section
variable {P:Program}{w:World}{K:Frag}{mg:Str->Option Value}{base:Heap}
theorem scDigit:FnScope ["_law_state","_law_most","_law_found"] ["_law_state","_law_most"] (defScope sDigit):=⟨rfl,rfl,rfl,by decide +kernel,rfl,by decide +kernel,by decide +kernel⟩
theorem ziZ {f:Addr}{fd:FuncData}(F:Fun K "_law_digit" "_law_digit" sDigit f fd)(B:Bt mg):FnOk P w K mg base CX0 1 f fd ["_law_state","_law_most"] (spTake K):=by
 refine F.ok scDigit (fun vs H Q E h=>?_) (fun cdv A outer s H vs Q E hr h=>?_)
 ·obtain⟨d,a,n,D,m,rfl,_⟩:=h;rfl
 obtain⟨d,a,n,D,m,rfl,S,Sc,hn,hm,hm2,q⟩:=h;have hu:=zdp hr
 refine⟨_,zan (zfw PassesOwn.never
   ((zjW (zcc znG (zay hu (pv 0) zao (fun _ _=>rfl)) zaq (nomark _))
    (zgP (zcc op_lt (zay hu (pv 0) zao (fun _ _=>rfl)) (zau zaH (by rfl) B.len PySem.boot_len (zaf (zay hu (pv 0) zao (fun _ _=>rfl)) pa_nil)) (nomark _)))).pt)
   (zan (zbd hu (pv 0) zao (zau zjE (by rfl) B.abs PyProof.Rows.boot_abs (zaf (ziU ix_list (zay hu (pv 0) zao (fun _ _=>rfl)) (zay hu (pv 0) zao (fun _ _=>rfl)) (fun _ _=>rfl)) pa_nil)) rfl)
   (zaU (zbd hu (pv 0) zao (zaC op_add (zay hu (pv 0) zao (fun _ _=>rfl)) zaq) rfl))))
  (zan (zba (i:=2) scDigit.nd rfl (Or.inl rfl) (zaC zcs (zay hu (pv 0) zao (fun _ _=>rfl)) (pv 1)))
  (zan (zbd hu (pv 0) zao (zaC zdJ (zay hu (pv 0) zao (fun _ _=>rfl)) (pv 1)) rfl)
  (zaU (zcr (pv 2))))),?_⟩
 obtain⟨ns,hS,hl⟩:=Sc;obtain⟨kv0,hk0⟩:=S.dk;obtain⟨t,l,wy,hd,h1,h2,h3⟩:=S.ex
 refine⟨fun k σ H1=>∃(t l:Int),σ=[some (.ref d),some (.int m),none]/\But d H H1/\H1 d=some (.dK (SK.zip (SV a t l wy D)))/\1<=t/\t<=(n:Int)+64/\0<=l/\k=((n:Int)+64-t).toNat,
  ⟨_,t,l,rfl,But.refl _ _,hd,h1,h2,h3,rfl⟩,?_⟩
 rintro k σ H1 ⟨t,l,rfl,b1,hd,h1,h2,h3,rfl⟩;refine⟨_,rfl,d,_,rfl,dget (i:=2) hd rfl rfl,rfl,_,rfl,?_⟩;refine ite2 (fun c1=>?_) (fun c1=>?_)
 ·refine⟨_,rfl,d,_,rfl,dget (i:=1) hd rfl rfl,_,rfl,d,_,rfl,dget (i:=0) hd rfl rfl,a,_,rfl,.inl (b1.seq hk0 hS),_,_,rfl,rfl,_,rfl,?_⟩;refine ite2 (fun c2=>?_) (fun c2=>?_)
  ·have c2':t<((ns.map V.int).length:Int):=of_decide_eq_true c2;rw[List.length_map] at c2';obtain⟨v,hv⟩:=zio (ns:=ns) (k:=t) (by omega) c2';refine⟨fun σ' H'=>∃(t' l':Int),σ'=[some (.ref d),some (.int m),none]/\But d H H'/\H' d=some (.dK (SK.zip (SV a t' l' wy D)))/\t'=t+1/\0<=l',fun σ' H' ⟨t',l',e1,b2,e2,e3,e4⟩=>⟨_,by omega,t',l',e1,b2,e2,by omega,by omega,e4,rfl⟩,?_⟩;refine⟨_,rfl,d,_,rfl,dget (i:=0) hd rfl rfl,_,rfl,d,_,rfl,dget (i:=1) hd rfl rfl,a,_,_,_,rfl,rfl,b1.seq hk0 hS,hv,v,rfl,_,rfl,d,_,rfl,dput (i:=2) hd rfl rfl,?_⟩;have hd2:(upd H1 d (.dK (SK.zip ((SV a t l wy D).set 2 (.int (if v<0 then -v else v)))))) d=some (.dK (SK.zip (SV a t (if v<0 then -v else v) wy D))):=zab;refine⟨_,rfl,d,_,rfl,dget (i:=1) hd2 rfl rfl,_,_,rfl,rfl,_,rfl,d,_,rfl,dput (i:=1) hd2 rfl rfl,?_⟩;exact⟨t+1,_,rfl,(b1.upd _).upd _,zab,rfl,by split<;>omega⟩
  ·refine⟨_,rfl,d,_,rfl,dget (i:=2) hd rfl rfl,_,rfl,_,_,rfl,rfl,hm,?_⟩;refine⟨_,rfl,d,_,rfl,dget (i:=2) hd rfl rfl,_,rfl,_,_,rfl,rfl,⟨hm,hm2⟩,_,rfl,d,_,rfl,dput (i:=2) hd rfl rfl,_,rfl,?_⟩;exact q (l % m) _ (Int.emod_nonneg _ (by omega)) (Int.emod_lt_of_pos _ hm) ⟨⟨t,l / m,wy,zab,h1,by omega,Int.ediv_nonneg h3 (by omega)⟩,S.tbB (b1.upd _) rfl⟩ (b1.upd _)
 ·refine⟨_,rfl,d,_,rfl,dget (i:=2) hd rfl rfl,_,rfl,_,_,rfl,rfl,hm,?_⟩;refine⟨_,rfl,d,_,rfl,dget (i:=2) hd rfl rfl,_,rfl,_,_,rfl,rfl,⟨hm,hm2⟩,_,rfl,d,_,rfl,dput (i:=2) hd rfl rfl,_,rfl,?_⟩;exact q (l % m) _ (Int.emod_nonneg _ (by omega)) (Int.emod_lt_of_pos _ hm) ⟨⟨t,l / m,wy,zab,h1,by omega,Int.ediv_nonneg h3 (by omega)⟩,S.tbB (b1.upd _) rfl⟩ (b1.upd _)
theorem scMixed:FnScope ["_law_state","_law_most","_law_script","_law_at","_law_cell"] ["_law_state","_law_most"] (defScope sMixed):=⟨rfl,rfl,rfl,by decide +kernel,rfl,by decide +kernel,by decide +kernel⟩
theorem ziY {f:Addr}{fd:FuncData}(F:Fun K "_law_mixed" "_law_mixed" sMixed f fd)(B:Bt mg):FnOk P w K mg base CX0 1 f fd ["_law_state","_law_most"] (spTake K):=by
 refine F.ok scMixed (fun vs H Q E h=>?_) (fun cdv A outer s H vs Q E hr h=>?_)
 ·obtain⟨d,a,n,D,m,rfl,_⟩:=h;rfl
 obtain⟨d,a,n,D,m,rfl,S,Sc,hn,hm,hm2,q⟩:=h;have hu:=zdp hr
 refine⟨_,zan (zba (i:=2) scMixed.nd rfl (Or.inl rfl) (zay hu (pv 0) zao (fun _ _=>rfl)))
  (zan (zba (i:=3) scMixed.nd rfl (Or.inl rfl) (zay hu (pv 0) zao (fun _ _=>rfl)))
  (zan (zbd hu (pv 0) zao (zaC op_add (pv 3) zaq) rfl)
  (zan (zba (i:=4) scMixed.nd rfl (Or.inl rfl) (zaC op_add (zaC zcR (zaC zcR (pv 3) (pv 3)) zaq) zaq))
  (zan (ziQ (zcc ziW (zau zaH (by rfl) B.len PySem.boot_len (zaf (pv 2) pa_nil)) zaq (nomark _))
   (zaU (zba (i:=4) scMixed.nd rfl (Or.inl rfl) (zaC op_add (pv 4) (zaC zcR (zaC zcs (ziU ix_list (pv 2) (zaC zcs (pv 3) (zau zaH (by rfl) B.len PySem.boot_len (zaf (pv 2) pa_nil))) (fun _ _=>rfl)) zaq)
    (zaC op_add zaq (zaC zdJ (pv 3) (zau zaH (by rfl) B.len PySem.boot_len (zaf (pv 2) pa_nil)))))))) pss_nil)
  (zan (zba (i:=4) scMixed.nd rfl (Or.inl rfl) (zaC zcs (zaC zcR (pv 4) zaq) zaq))
  (zaU (zcr (zaC zcs (zaC zlb (zaC zcs (zaC op_add (zaC op_add (zaC zcR (pv 4) (pv 4)) (zaC zcR zaq (pv 4))) (pv 3)) zaq) zaq) (pv 1))))))))),?_⟩
 obtain⟨ns,hS,hl⟩:=Sc;obtain⟨t,l,wy,hd,h1,h2,h3⟩:=S.ex;have b1:But d H (upd H d (.dK (SK.zip ((SV a t l wy D).set 1 (.int (t+1)))))):=(But.refl d H).upd _;have hS1:=b1.seq hd hS;refine⟨_,rfl,d,_,rfl,dget (i:=0) hd rfl rfl,_,rfl,d,_,rfl,dget (i:=1) hd rfl rfl,_,rfl,_,_,rfl,rfl,_,rfl,d,_,rfl,dput (i:=1) hd rfl rfl,?_⟩;refine⟨_,rfl,_,rfl,_,_,rfl,rfl,.inl ⟨by omega,by omega⟩,_,_,rfl,rfl,.inr ⟨by decide,by decide⟩,_,_,rfl,rfl,?_⟩;refine⟨_,rfl,a,_,rfl,.inl hS1,_,_,rfl,rfl,_,rfl,?_⟩;have fin:∀ c:Int,q=q->(0<=c % 2147483629/\c % 2147483629<2147483629):=fun c _=>⟨Int.emod_nonneg _ (by decide),Int.emod_lt_of_pos _ (by decide)⟩;have S1:StAt (upd H d (.dK (SK.zip ((SV a t l wy D).set 1 (.int (t+1)))))) d a (n+1) D:=⟨⟨t+1,l,wy,zab,by omega,by omega,h3⟩,S.tbB b1 rfl⟩;refine ite2 (fun c=>?_) (fun c=>?_)
 ·have c':(0:Int)<((ns.map V.int).length:Int):=of_decide_eq_true c;have hlen:((ns.map V.int).length:Int)=(ns.length:Int):=by rw[List.length_map]
  have p1:0<=t % ((ns.map V.int).length:Int):=Int.emod_nonneg _ (by omega);have p2:t % ((ns.map V.int).length:Int)<((ns.map V.int).length:Int):=Int.emod_lt_of_pos _ c';obtain⟨v,hv⟩:=zio (ns:=ns) (k:=t % ((ns.map V.int).length:Int)) p1 (by omega);have p3:0<=v % 2147483647/\v % 2147483647<2147483647:=⟨Int.emod_nonneg _ (by decide),Int.emod_lt_of_pos _ (by decide)⟩;refine⟨_,rfl,_,rfl,_,rfl,_,rfl,a,_,rfl,.inl hS1,_,_,rfl,rfl,c',a,_,_,_,rfl,rfl,hS1,hv,_,_,rfl,rfl,(by show(0:Int)<2147483647;decide),_,rfl,_,rfl,a,_,rfl,.inl hS1,_,_,rfl,rfl,⟨c',by omega⟩,_,_,rfl,rfl,_,_,rfl,rfl,.inl ⟨by omega,by omega⟩,_,_,rfl,rfl,?_⟩;refine⟨_,rfl,_,_,rfl,rfl,.inr ⟨by decide,by decide⟩,_,_,rfl,rfl,(by show(0:Int)<2147483629;decide),?_⟩;have f1:=fin ((t*t*7919+11+v % 2147483647*(1+t / ((ns.map V.int).length:Int)))*48271) rfl;refine⟨_,rfl,_,rfl,_,_,rfl,rfl,.inl ⟨by omega,by omega⟩,_,rfl,_,_,rfl,rfl,.inl ⟨by decide,by decide⟩,_,_,rfl,rfl,_,rfl,_,_,rfl,rfl,_,_,rfl,rfl,(by show(0:Int)<2147483587;decide),_,_,rfl,rfl,⟨by decide,by decide⟩,_,rfl,_,_,rfl,rfl,hm,?_⟩;exact q _ _ (Int.emod_nonneg _ (by omega)) (Int.emod_lt_of_pos _ hm) S1 b1
 ·refine⟨_,rfl,_,_,rfl,rfl,.inr ⟨by decide,by decide⟩,_,_,rfl,rfl,(by show(0:Int)<2147483629;decide),?_⟩;have f1:=fin ((t*t*7919+11)*48271) rfl;refine⟨_,rfl,_,rfl,_,_,rfl,rfl,.inl ⟨by omega,by omega⟩,_,rfl,_,_,rfl,rfl,.inl ⟨by decide,by decide⟩,_,_,rfl,rfl,_,rfl,_,_,rfl,rfl,_,_,rfl,rfl,(by show(0:Int)<2147483587;decide),_,_,rfl,rfl,⟨by decide,by decide⟩,_,rfl,_,_,rfl,rfl,hm,?_⟩;exact q _ _ (Int.emod_nonneg _ (by omega)) (Int.emod_lt_of_pos _ hm) S1 b1
theorem scTake:FnScope ["_law_state","_law_most"] ["_law_state","_law_most"] (defScope sTake):=⟨rfl,rfl,rfl,by decide +kernel,rfl,by decide +kernel,by decide +kernel⟩
theorem zle {f g h:Addr}{fd gd hd:FuncData}(F:Fun K "_law_take" "_law_take" sTake f fd)(G:FnOk P w K mg base CX0 1 g gd ["_law_state","_law_most"] (spTake K))(bG:Binds K gd ["_law_state","_law_most"] [])(kG:PySem.W.keepIn K (.ref g)=true)(mG:mg "_law_digit"=some (.ref g))
  (G2:FnOk P w K mg base CX0 1 h hd ["_law_state","_law_most"] (spTake K))(bG2:Binds K hd ["_law_state","_law_most"] [])(kG2:PySem.W.keepIn K (.ref h)=true)(mG2:mg "_law_mixed"=some (.ref h)) :
  FnOk P w K mg base CX0 2 f fd ["_law_state","_law_most"] (spTake K):=by
 refine F.ok scTake (fun vs H Q E h=>?_) (fun cdv A outer s H vs Q E hr h=>?_)
 ·obtain⟨d,a,n,D,m,rfl,_⟩:=h;rfl
 obtain⟨d,a,n,D,m,rfl,S,Sc,hn,hm,hm2,q⟩:=h;have hu:=zdp hr
 refine⟨_,zan (ziQ (zcc znG (zay hu (pv 0) zao (fun _ _=>rfl)) zaq (nomark _)) (zaU (zcr (zaV G hr rfl mG kG bG .nil zdl (zaf (pv 0) (zaf (pv 1) pa_nil))))) pss_nil)
  (zaU (zcr (zaV G2 hr rfl mG2 kG2 bG2 .nil zdl (zaf (pv 0) (zaf (pv 1) pa_nil))))),?_⟩
 obtain⟨t,l,wy,hd,h1,h2,h3⟩:=S.ex;refine⟨_,rfl,d,_,rfl,dget (i:=3) hd rfl rfl,rfl,_,rfl,?_⟩;refine ite2 (fun c=>?_) (fun c=>?_)
 ·exact⟨_,rfl,_,rfl,d,a,n,D,m,rfl,S,Sc,hn,hm,hm2,q⟩
 ·exact⟨_,rfl,_,rfl,d,a,n,D,m,rfl,S,Sc,hn,hm,hm2,q⟩
end
end K07
namespace K07
open PySem PySem.W L2 PyProof.Rows
abbrev owP:Program:=PySem.Challenge.pw_everyplan_k07_conjuncts_joined_alike
set_option maxHeartbeats 0 in
theorem ow0:PySem.Challenge.rw_everyplan_k07_conjuncts_joined_alike.wellSaid=true:=by kernel_rfl
def owKeep (l:List Stmt):List Stmt:=l.filter fun s=>match s with
 |.Assign [.Name x _] _ _=>!(x==("__name__":Str))
 |_=>true
def owQ:Program:={ owP with main:={ owP.main with body:=owKeep owP.main.body } }
abbrev owD (P:Params)(k:Str)(t:Tok)(v:Value):DictEntry:=.mk (PyData.keyHash P k) (.str k t) v
abbrev owf (n q:Str)(s:Stmt):=FuncData.mk n q (L2.defArgs s) (FuncBody.stmts (L2.defBody s)) (L2.defScope s)
abbrev owLi:Life:=.mk [] [] [] 0 [] [] false #[] [] 0 false false false 0 [2000,10,10] false 0 true [] [] 0 false
noncomputable def o3 (P:Params):Obj:=(Obj.mk (.type "dict") none (Data.dict (List.toArray ((owD P "__name__" 165 (.str "law_everyplan_k07_conjuncts_joined_alike" 226))::((owD P "__doc__" 166 .none)::((owD P "__package__" 167 .none)::((owD P "__loader__" 168 (.builtin "__main__.__loader__#opaque"))::((owD P "__spec__" 169 .none)::((owD P "__annotations__" 170 (.ref 6))::((owD P "__builtins__" 171 (.ref 4))::((owD P "__file__" 173 (.str "/claim/cut.py" 172))::((owD P "__cached__" 174 .none)::((owD P "flat" 198 (.ref 21))::((owD P "conjuncts" 210 (.ref 28))::((owD P "alike" 216 (.ref 33))::((owD P "joined" 225 (.ref 40))::((owD P "_law_begin" 238 (.ref 47))::((owD P "_law_digit" 247 (.ref 54))::((owD P "_law_mixed" 258 (.ref 61))::((owD P "_law_take" 266 (.ref 68))::((owD P "_law_word" 277 (.ref 75))::((owD P "_law_new" 286 (.ref 82))::((owD P "_law_table" 292 (.ref 87))::((owD P "_law_matched" 298 (.ref 92))::((owD P "_law_points" 311 (.ref 99))::((owD P "_law_frame" 317 (.ref 104))::((owD P "_law_constant" 325 (.ref 111))::((owD P "_law_sum" 331 (.ref 116))::((owD P "_law_compared" 337 (.ref 121))::((owD P "_law_cond" 353 (.ref 128))::((owD P "_law_kind" 359 (.ref 133))::((owD P "_law_meeting" 365 (.ref 138))::((owD P "_law_part" 381 (.ref 145))::((owD P "_law_may_be" 389 (.ref 152))::((owD P "_law_shown" 409 (.ref 159))::((owD P "_law_both" 428 (.ref 166))::((owD P "_law_grouped" 434 (.ref 171))::((owD P "_law_added" 455 (.ref 178))::((owD P "_law_keys" 466 (.ref 185))::((owD P "_law_ask" 479 (.ref 192))::((owD P "_law_flat" 486 (.ref 199))::((owD P "_law_nested" 495 (.ref 206))::((owD P "_law_due_joined" 502 (.ref 213))::((owD P "_law_alike_due" 508 (.ref 218))::((owD P "_law_same_list" 516 (.ref 225))::((owD P "law" 522 (.ref 230))::[])))))))))))))))))))))))))))))))))))))))))))) 43) #[])
def q1:Obj:=(Obj.mk (.type "tuple") none (Data.seq #[] 0) #[])
noncomputable def o12:Obj:=(Obj.mk .none none (Data.fields (List.toArray ((.int 2 0)::((.int 0 0)::((.ref 20)::((.int 14 0)::((.int 0 0)::((.ref 27)::((.int 24 0)::((.int 0 0)::((.ref 32)::((.int 26 0)::((.int 0 0)::((.ref 39)::((.int 34 0)::((.int 0 0)::((.ref 46)::((.int 46 0)::((.int 0 0)::((.ref 53)::((.int 53 0)::((.int 0 0)::((.ref 60)::((.int 62 0)::((.int 0 0)::((.ref 67)::((.int 66 0)::((.int 0 0)::((.ref 74)::((.int 71 0)::((.int 0 0)::((.ref 81)::((.int 76 0)::((.int 0 0)::((.ref 86)::((.int 87 0)::((.int 0 0)::((.ref 91)::((.int 101 0)::((.int 0 0)::((.ref 98)::((.int 111 0)::((.int 0 0)::((.ref 103)::((.int 114 0)::((.int 0 0)::((.ref 110)::((.int 120 0)::((.int 0 0)::((.ref 115)::((.int 129 0)::((.int 0 0)::((.ref 120)::((.int 133 0)::((.int 0 0)::((.ref 127)::((.int 150 0)::((.int 0 0)::((.ref 132)::((.int 153 0)::((.int 0 0)::((.ref 137)::((.int 166 0)::((.int 0 0)::((.ref 144)::((.int 174 0)::((.int 0 0)::((.ref 151)::((.int 180 0)::((.int 0 0)::((.ref 158)::((.int 201 0)::((.int 0 0)::((.ref 165)::((.int 213 0)::((.int 0 0)::((.ref 170)::((.int 234 0)::((.int 0 0)::((.ref 177)::((.int 248 0)::((.int 0 0)::((.ref 184)::((.int 254 0)::((.int 0 0)::((.ref 191)::((.int 273 0)::((.int 0 0)::((.ref 198)::((.int 277 0)::((.int 0 0)::((.ref 205)::((.int 286 0)::((.int 0 0)::((.ref 212)::((.int 292 0)::((.int 0 0)::((.ref 217)::((.int 296 0)::((.int 0 0)::((.ref 224)::((.int 298 0)::((.int 0 0)::((.ref 229)::[])))))))))))))))))))))))))))))))))))))))))))))))))))))))))))))))))))))))))))))))))))))))))))))))))))))))) #[])
def q2:Obj:=(Obj.mk .none none (Data.fields #[]) #[])
def o12z:=q2
def q3 (x0:Str)(x1:Nat):Obj:=(Obj.mk .none none (Data.func (owf x0 x0 (top x1) 0 [] .none .none .none .none none .none .none 0)) #[])
def q4 (x0:Str)(x1:Nat)(x2:Nat)(x3:Nat)(x4:Int)(x5:Int)(x6:Nat)(x7:Nat)(x8:Nat)(x9:Nat)(x10:Nat)(x11:Int)(x12:Nat):Obj:=(Obj.mk (.type "code") none (Data.fields (List.toArray ((.str x0 x1)::((.str x0 x2)::((.str "/claim/cut.py" x3)::((.int x4 0)::((.int x5 0)::((.int 0 0)::((.int 0 0)::((.int 3 0)::((.ref x6)::((.bool true)::((.int 181 0)::((.ref x7)::(.none::((.ref x8)::((.ref x9)::((.ref x10)::((.int x11 0)::((.int x4 0)::((.str "/claim/cut.py" x12)::[]))))))))))))))))))))) #[])
def o20:=q4 "flat" 189 190 191 2 1 15 16 17 18 19 196 197
def o27:=q4 "conjuncts" 201 202 203 14 1 22 23 24 25 26 208 209
def o39:=q4 "joined" 217 218 219 26 1 34 35 36 37 38 223 224
def o46:=q4 "_law_begin" 228 229 230 34 1 41 42 43 44 45 236 237
def o53:=q4 "_law_digit" 239 240 241 46 2 48 49 50 51 52 245 246
def o60:=q4 "_law_mixed" 248 249 250 53 2 55 56 57 58 59 256 257
def o67:=q4 "_law_take" 259 260 261 62 2 62 63 64 65 66 264 265
def o74:=q4 "_law_word" 267 268 269 66 2 69 70 71 72 73 275 276
def o81:=q4 "_law_new" 278 279 280 71 1 76 77 78 79 80 284 285
def o98:=q4 "_law_points" 299 300 301 101 2 93 94 95 96 97 309 310
def o110:=q4 "_law_constant" 318 319 320 114 2 105 106 107 108 109 323 324
def o127:=q4 "_law_cond" 338 339 340 133 4 122 123 124 125 126 351 352
def o144:=q4 "_law_part" 366 367 368 166 2 139 140 141 142 143 379 380
def o151:=q4 "_law_may_be" 382 383 384 174 2 146 147 148 149 150 387 388
def o158:=q4 "_law_shown" 390 391 392 180 3 153 154 155 156 157 407 408
def o165:=q4 "_law_both" 410 411 412 201 4 160 161 162 163 164 426 427
def o177:=q4 "_law_added" 435 436 437 234 3 172 173 174 175 176 453 454
def o184:=q4 "_law_keys" 456 457 458 248 2 179 180 181 182 183 464 465
def o191:=q4 "_law_ask" 467 468 469 254 3 186 187 188 189 190 477 478
def o198:=q4 "_law_flat" 480 481 482 273 1 193 194 195 196 197 484 485
def o205:=q4 "_law_nested" 487 488 489 277 2 200 201 202 203 204 493 494
def o212:=q4 "_law_due_joined" 496 497 498 286 1 207 208 209 210 211 500 501
def o224:=q4 "_law_same_list" 509 510 511 296 2 219 220 221 222 223 514 515
def q5 (x0:Str)(x1:Nat)(x2:Str)(x3:Nat)(x4:Nat):Obj:=(Obj.mk (.type "function") none (Data.func (owf x0 x0 (top x1) 3 [] .none .none .none (.str x2 x3) none (.ref x4) .none 0)) #[])
def o21:=q5 "flat" 1 "everyplan.walks" 187 20
def o28:=q5 "conjuncts" 3 "everyplan.conds" 199 27
def o33:=q5 "alike" 4 "everyplan.conds" 199 32
def o40:=q5 "joined" 5 "everyplan.conds" 199 39
def o47:=q5 "_law_begin" 7 "law_everyplan_k07_conjuncts_joined_alike" 226 46
def o54:=q5 "_law_digit" 8 "law_everyplan_k07_conjuncts_joined_alike" 226 53
def o61:=q5 "_law_mixed" 9 "law_everyplan_k07_conjuncts_joined_alike" 226 60
def o68:=q5 "_law_take" 10 "law_everyplan_k07_conjuncts_joined_alike" 226 67
def o75:=q5 "_law_word" 11 "law_everyplan_k07_conjuncts_joined_alike" 226 74
def o82:=q5 "_law_new" 12 "law_everyplan_k07_conjuncts_joined_alike" 226 81
def o87:=q5 "_law_table" 13 "law_everyplan_k07_conjuncts_joined_alike" 226 86
def o92:=q5 "_law_matched" 14 "law_everyplan_k07_conjuncts_joined_alike" 226 91
def o99:=q5 "_law_points" 15 "law_everyplan_k07_conjuncts_joined_alike" 226 98
def o104:=q5 "_law_frame" 16 "law_everyplan_k07_conjuncts_joined_alike" 226 103
def o111:=q5 "_law_constant" 17 "law_everyplan_k07_conjuncts_joined_alike" 226 110
def o116:=q5 "_law_sum" 18 "law_everyplan_k07_conjuncts_joined_alike" 226 115
def o121:=q5 "_law_compared" 19 "law_everyplan_k07_conjuncts_joined_alike" 226 120
def o128:=q5 "_law_cond" 20 "law_everyplan_k07_conjuncts_joined_alike" 226 127
def o133:=q5 "_law_kind" 21 "law_everyplan_k07_conjuncts_joined_alike" 226 132
def o138:=q5 "_law_meeting" 22 "law_everyplan_k07_conjuncts_joined_alike" 226 137
def o145:=q5 "_law_part" 23 "law_everyplan_k07_conjuncts_joined_alike" 226 144
def o152:=q5 "_law_may_be" 24 "law_everyplan_k07_conjuncts_joined_alike" 226 151
def o159:=q5 "_law_shown" 25 "law_everyplan_k07_conjuncts_joined_alike" 226 158
def o166:=q5 "_law_both" 26 "law_everyplan_k07_conjuncts_joined_alike" 226 165
def o171:=q5 "_law_grouped" 27 "law_everyplan_k07_conjuncts_joined_alike" 226 170
def o178:=q5 "_law_added" 28 "law_everyplan_k07_conjuncts_joined_alike" 226 177
def o185:=q5 "_law_keys" 29 "law_everyplan_k07_conjuncts_joined_alike" 226 184
def o192:=q5 "_law_ask" 30 "law_everyplan_k07_conjuncts_joined_alike" 226 191
def o199:=q5 "_law_flat" 31 "law_everyplan_k07_conjuncts_joined_alike" 226 198
def o206:=q5 "_law_nested" 32 "law_everyplan_k07_conjuncts_joined_alike" 226 205
def o213:=q5 "_law_due_joined" 33 "law_everyplan_k07_conjuncts_joined_alike" 226 212
def o218:=q5 "_law_alike_due" 34 "law_everyplan_k07_conjuncts_joined_alike" 226 217
def o225:=q5 "_law_same_list" 35 "law_everyplan_k07_conjuncts_joined_alike" 226 224
def o230:=q5 "law" 36 "law_everyplan_k07_conjuncts_joined_alike" 226 229
def q6 (x0:Str)(x1:Nat)(x2:Nat)(x3:Nat)(x4:Int)(x5:Int)(x6:Nat)(x7:Nat)(x8:Nat)(x9:Int)(x10:Nat):Obj:=(Obj.mk (.type "code") none (Data.fields (List.toArray ((.str x0 x1)::((.str x0 x2)::((.str "/claim/cut.py" x3)::((.int x4 0)::((.int x5 0)::((.int 0 0)::((.int 0 0)::((.int 3 0)::((.ref x6)::((.bool true)::((.int 181 0)::((.ref x7)::(.none::(.none::(.none::((.ref x8)::((.int x9 0)::((.int x4 0)::((.str "/claim/cut.py" x10)::[]))))))))))))))))))))) #[])
def o32:=q6 "alike" 211 212 213 24 2 29 30 31 214 215
def o86:=q6 "_law_table" 287 288 289 76 2 83 84 85 290 291
def o91:=q6 "_law_matched" 293 294 295 87 4 88 89 90 296 297
def o103:=q6 "_law_frame" 312 313 314 111 1 100 101 102 315 316
def o115:=q6 "_law_sum" 326 327 328 120 4 112 113 114 329 330
def o120:=q6 "_law_compared" 332 333 334 129 3 117 118 119 335 336
def o132:=q6 "_law_kind" 354 355 356 150 2 129 130 131 357 358
def o137:=q6 "_law_meeting" 360 361 362 153 5 134 135 136 363 364
def o170:=q6 "_law_grouped" 429 430 431 213 3 167 168 169 432 433
def o217:=q6 "_law_alike_due" 503 504 505 292 2 214 215 216 506 507
def o229:=q6 "law" 517 518 519 298 1 226 227 228 520 521
def q7 (x0:Str)(x1:Nat)(x2:Str)(x3:Nat)(x4:Str)(x5:Nat):Obj:=(Obj.mk (.type "tuple") none (Data.seq (List.toArray ((.str x0 x1)::((.str x2 x3)::((.str x4 x5)::[])))) 0) #[])
def q8 (x0:Str)(x1:Nat)(x2:Str)(x3:Nat)(x4:Str)(x5:Nat)(x6:Str)(x7:Nat)(x8:Str)(x9:Nat):Obj:=(Obj.mk (.type "tuple") none (Data.seq (List.toArray ((.str x0 x1)::((.str x2 x3)::((.str x4 x5)::((.str x6 x7)::((.str x8 x9)::[])))))) 0) #[])
def q9 (x0:Str)(x1:Nat)(x2:Str)(x3:Nat):Obj:=(Obj.mk (.type "tuple") none (Data.seq (List.toArray ((.str x0 x1)::((.str x2 x3)::[]))) 0) #[])
noncomputable def o3a (P:Params):Obj:=(Obj.mk (.type "dict") none (Data.dict (List.toArray ((owD P "__name__" 165 (.str "law_everyplan_k07_conjuncts_joined_alike" 226))::((owD P "__doc__" 166 .none)::((owD P "__package__" 167 .none)::((owD P "__loader__" 168 (.builtin "__main__.__loader__#opaque"))::((owD P "__spec__" 169 .none)::((owD P "__annotations__" 170 (.ref 6))::((owD P "__builtins__" 171 (.ref 4))::((owD P "__file__" 173 (.str "/claim/cut.py" 172))::((owD P "__cached__" 174 .none)::((owD P "flat" 198 (.ref 21))::((owD P "conjuncts" 210 (.ref 28))::((owD P "alike" 216 (.ref 33))::((owD P "joined" 225 (.ref 40))::((owD P "_law_begin" 238 (.ref 47))::((owD P "_law_digit" 247 (.ref 54))::((owD P "_law_mixed" 258 (.ref 61))::((owD P "_law_take" 266 (.ref 68))::((owD P "_law_word" 277 (.ref 75))::((owD P "_law_new" 286 (.ref 82))::((owD P "_law_table" 292 (.ref 87))::((owD P "_law_matched" 298 (.ref 92))::[])))))))))))))))))))))) 21) #[])
noncomputable def o12a:Obj:=(Obj.mk .none none (Data.fields (List.toArray ((.int 2 0)::((.int 0 0)::((.ref 20)::((.int 14 0)::((.int 0 0)::((.ref 27)::((.int 24 0)::((.int 0 0)::((.ref 32)::((.int 26 0)::((.int 0 0)::((.ref 39)::((.int 34 0)::((.int 0 0)::((.ref 46)::((.int 46 0)::((.int 0 0)::((.ref 53)::((.int 53 0)::((.int 0 0)::((.ref 60)::((.int 62 0)::((.int 0 0)::((.ref 67)::((.int 66 0)::((.int 0 0)::((.ref 74)::((.int 71 0)::((.int 0 0)::((.ref 81)::((.int 76 0)::((.int 0 0)::((.ref 86)::((.int 87 0)::((.int 0 0)::((.ref 91)::[])))))))))))))))))))))))))))))))))))))) #[])
noncomputable def o3b (P:Params):Obj:=(Obj.mk (.type "dict") none (Data.dict (List.toArray ((owD P "__name__" 165 (.str "law_everyplan_k07_conjuncts_joined_alike" 226))::((owD P "__doc__" 166 .none)::((owD P "__package__" 167 .none)::((owD P "__loader__" 168 (.builtin "__main__.__loader__#opaque"))::((owD P "__spec__" 169 .none)::((owD P "__annotations__" 170 (.ref 6))::((owD P "__builtins__" 171 (.ref 4))::((owD P "__file__" 173 (.str "/claim/cut.py" 172))::((owD P "__cached__" 174 .none)::((owD P "flat" 198 (.ref 21))::((owD P "conjuncts" 210 (.ref 28))::((owD P "alike" 216 (.ref 33))::((owD P "joined" 225 (.ref 40))::((owD P "_law_begin" 238 (.ref 47))::((owD P "_law_digit" 247 (.ref 54))::((owD P "_law_mixed" 258 (.ref 61))::((owD P "_law_take" 266 (.ref 68))::((owD P "_law_word" 277 (.ref 75))::((owD P "_law_new" 286 (.ref 82))::((owD P "_law_table" 292 (.ref 87))::((owD P "_law_matched" 298 (.ref 92))::((owD P "_law_points" 311 (.ref 99))::((owD P "_law_frame" 317 (.ref 104))::((owD P "_law_constant" 325 (.ref 111))::((owD P "_law_sum" 331 (.ref 116))::((owD P "_law_compared" 337 (.ref 121))::((owD P "_law_cond" 353 (.ref 128))::((owD P "_law_kind" 359 (.ref 133))::((owD P "_law_meeting" 365 (.ref 138))::((owD P "_law_part" 381 (.ref 145))::((owD P "_law_may_be" 389 (.ref 152))::((owD P "_law_shown" 409 (.ref 159))::((owD P "_law_both" 428 (.ref 166))::[])))))))))))))))))))))))))))))))))) 33) #[])
noncomputable def o12b:Obj:=(Obj.mk .none none (Data.fields (List.toArray ((.int 2 0)::((.int 0 0)::((.ref 20)::((.int 14 0)::((.int 0 0)::((.ref 27)::((.int 24 0)::((.int 0 0)::((.ref 32)::((.int 26 0)::((.int 0 0)::((.ref 39)::((.int 34 0)::((.int 0 0)::((.ref 46)::((.int 46 0)::((.int 0 0)::((.ref 53)::((.int 53 0)::((.int 0 0)::((.ref 60)::((.int 62 0)::((.int 0 0)::((.ref 67)::((.int 66 0)::((.int 0 0)::((.ref 74)::((.int 71 0)::((.int 0 0)::((.ref 81)::((.int 76 0)::((.int 0 0)::((.ref 86)::((.int 87 0)::((.int 0 0)::((.ref 91)::((.int 101 0)::((.int 0 0)::((.ref 98)::((.int 111 0)::((.int 0 0)::((.ref 103)::((.int 114 0)::((.int 0 0)::((.ref 110)::((.int 120 0)::((.int 0 0)::((.ref 115)::((.int 129 0)::((.int 0 0)::((.ref 120)::((.int 133 0)::((.int 0 0)::((.ref 127)::((.int 150 0)::((.int 0 0)::((.ref 132)::((.int 153 0)::((.int 0 0)::((.ref 137)::((.int 166 0)::((.int 0 0)::((.ref 144)::((.int 174 0)::((.int 0 0)::((.ref 151)::((.int 180 0)::((.int 0 0)::((.ref 158)::((.int 201 0)::((.int 0 0)::((.ref 165)::[])))))))))))))))))))))))))))))))))))))))))))))))))))))))))))))))))))))))))) #[])
noncomputable def ows0 (P:Params)(v3:Obj)(v12:Obj)(l:List Obj):List Obj:=(W.boot_o_0 P)::(W.boot_o_1 P)::(W.boot_o_2 P)::v3::(W.boot_o_4 P)::(W.boot_o_5 P)::(W.boot_o_6 P)::(W.boot_o_7 P)::(W.boot_o_8 P)::(W.boot_o_9 P)::(W.boot_o_10 P)::(q1 )::v12::(Obj.mk (.type "code") none (Data.fields (List.toArray ((.str "<module>" 182)::((.str "<module>" 183)::((.str "/claim/cut.py" 184)::((.int 1 0)::((.int 0 0)::((.int 0 0)::((.int 0 0)::((.int 0 0)::((.ref 11)::((.bool false)::((.int 181 0)::((.ref 12)::(.none::(.none::(.none::(.none::((.int 185 0)::((.int 1 0)::((.str "/claim/cut.py" 186)::[]))))))))))))))))))))) #[])::(Obj.mk (.type "frame") none Data.plain (List.toArray ((some (.ref 13))::((some (.ref 3))::((some (.ref 3))::(none::((some (.str "__main__" 164))::(none::((some (.ref 0))::[])))))))))::(q1 )::(q2 )::(Obj.mk (.type "tuple") none (Data.seq (List.toArray ((.str "thing" 192)::((.str "found" 193)::((.str "left" 194)::((.str "part" 195)::[]))))) 0) #[])::(q1 )::(q3 "flat" 1)::o20::o21::(q1 )::(q2 )::(Obj.mk (.type "tuple") none (Data.seq (List.toArray ((.str "cond" 204)::((.str "found" 205)::((.str "left" 206)::((.str "part" 207)::[]))))) 0) #[])::(q1 )::(q3 "conjuncts" 3)::o27::o28::(q1 )::(q2 )::(q3 "alike" 4)::o32::o33::(q1 )::(q2 )::(q7 "conds" 220 "whole" 221 "cond" 222)::(q1 )::(q3 "joined" 5)::o39::o40::(q1 )::(q2 )::(q8 "_law_script" 231 "_law_way" 232 "_law_state" 233 "_law_letters" 234 "_law_k" 235)::(q1 )::(q3 "_law_begin" 7)::o46::o47::(q1 )::(q2 )::(q7 "_law_state" 242 "_law_most" 243 "_law_found" 244)::(q1 )::(q3 "_law_digit" 8)::o53::o54::(q1 )::(q2 )::(q8 "_law_state" 251 "_law_most" 252 "_law_script" 253 "_law_at" 254 "_law_cell" 255)::(q1 )::(q3 "_law_mixed" 9)::o60::o61::(q1 )::(q2 )::(q9 "_law_state" 262 "_law_most" 263)::(q1 )::(q3 "_law_take" 10)::o67::o68::(q1 )::(q2 )::(q8 "_law_state" 270 "_law_number" 271 "_law_letters" 272 "_law_base" 273 "_law_spot" 274)::(q1 )::(q3 "_law_word" 11)::o74::o75::(q1 )::(q2 )::(q7 "_law_state" 281 "_law_letters" 282 "_law_number" 283)::(q1 )::(q3 "_law_new" 12)::o81::o82::(q1 )::(q2 )::(q3 "_law_table" 13)::o86::o87::(q1 )::(q2 )::(q3 "_law_matched" 14)::o91::o92::l
noncomputable def ows1 (P:Params)(l:List Obj):List Obj:=(q1 )::(q2 )::(Obj.mk (.type "tuple") none (Data.seq (List.toArray ((.str "_law_state" 302)::((.str "_law_tables" 303)::((.str "_law_points_here" 304)::((.str "_law_table_here" 305)::((.str "_law_goal" 306)::((.str "_law_key" 307)::((.str "_law_found" 308)::[])))))))) 0) #[])::(q1 )::(q3 "_law_points" 15)::o98::o99::(q1 )::(q2 )::(q3 "_law_frame" 16)::o103::o104::(q1 )::(q2 )::(q9 "_law_state" 321 "_law_kind_here" 322)::(q1 )::(q3 "_law_constant" 17)::o110::o111::(q1 )::(q2 )::(q3 "_law_sum" 18)::o115::o116::(q1 )::(q2 )::(q3 "_law_compared" 19)::o120::o121::(q1 )::(q2 )::(Obj.mk (.type "tuple") none (Data.seq (List.toArray ((.str "_law_state" 341)::((.str "_law_frame_here" 342)::((.str "_law_cols" 343)::((.str "_law_deep" 344)::((.str "_law_way" 345)::((.str "_law_ask_here" 346)::((.str "_law_more" 347)::((.str "_law_size" 348)::((.str "_law_both_here" 349)::((.str "_law_one" 350)::[]))))))))))) 0) #[])::(q1 )::(q3 "_law_cond" 20)::o127::o128::(q1 )::(q2 )::(q3 "_law_kind" 21)::o132::o133::(q1 )::(q2 )::(q3 "_law_meeting" 22)::o137::o138::(q1 )::(q2 )::(Obj.mk (.type "tuple") none (Data.seq (List.toArray ((.str "_law_state" 369)::((.str "_law_frame_here" 370)::((.str "_law_name" 371)::((.str "_law_fields" 372)::((.str "_law_keys_here" 373)::((.str "_law_word_here" 374)::((.str "_law_cols" 375)::((.str "_law_column" 376)::((.str "_law_kind_here" 377)::((.str "_law_maybe" 378)::[]))))))))))) 0) #[])::(q1 )::(q3 "_law_part" 23)::o144::o145::(q1 )::(q2 )::(q9 "_law_one" 385 "_law_cols" 386)::(q1 )::(q3 "_law_may_be" 24)::o151::o152::(q1 )::(q2 )::(Obj.mk (.type "tuple") none (Data.seq (List.toArray ((.str "_law_state" 393)::((.str "_law_frame_here" 394)::((.str "_law_deep" 395)::((.str "_law_ask_here" 396)::((.str "_law_cols" 397)::((.str "_law_size" 398)::((.str "_law_pairs" 399)::((.str "_law_shown_here" 400)::((.str "_law_name" 401)::((.str "_law_way" 402)::((.str "_law_word_here" 403)::((.str "_law_kind_here" 404)::((.str "_law_one" 405)::((.str "_law_turn" 406)::[]))))))))))))))) 0) #[])::(q1 )::(q3 "_law_shown" 25)::o158::o159::(q1 )::(q2 )::(Obj.mk (.type "tuple") none (Data.seq (List.toArray ((.str "_law_state" 413)::((.str "_law_frame_here" 414)::((.str "_law_word_here" 415)::((.str "_law_deep" 416)::((.str "_law_a" 417)::((.str "_law_mine" 418)::((.str "_law_one" 419)::((.str "_law_b" 420)::((.str "_law_yours" 421)::((.str "_law_other" 422)::((.str "_law_cond_here" 423)::((.str "_law_cols" 424)::((.str "_law_name" 425)::[])))))))))))))) 0) #[])::(q1 )::(q3 "_law_both" 26)::o165::o166::l
noncomputable def ows2 (P:Params)(l:List Obj):List Obj:=(q1 )::(q2 )::(q3 "_law_grouped" 27)::o170::o171::(q1 )::(q2 )::(Obj.mk (.type "tuple") none (Data.seq (List.toArray ((.str "_law_state" 438)::((.str "_law_frame_here" 439)::((.str "_law_deep" 440)::((.str "_law_a" 441)::((.str "_law_cols" 442)::((.str "_law_size" 443)::((.str "_law_way" 444)::((.str "_law_b" 445)::((.str "_law_others" 446)::((.str "_law_other" 447)::((.str "_law_word_here" 448)::((.str "_law_kind_here" 449)::((.str "_law_one" 450)::((.str "_law_two" 451)::((.str "_law_found" 452)::[])))))))))))))))) 0) #[])::(q1 )::(q3 "_law_added" 28)::o177::o178::(q1 )::(q2 )::(q8 "_law_state" 459 "_law_cols" 460 "_law_left" 461 "_law_keys_here" 462 "_law_k" 463)::(q1 )::(q3 "_law_keys" 29)::o184::o185::(q1 )::(q2 )::(Obj.mk (.type "tuple") none (Data.seq (List.toArray ((.str "_law_state" 470)::((.str "_law_frame_here" 471)::((.str "_law_deep" 472)::((.str "_law_way" 473)::((.str "_law_ask_here" 474)::((.str "_law_cols" 475)::((.str "_law_size" 476)::[])))))))) 0) #[])::(q1 )::(q3 "_law_ask" 30)::o191::o192::(q1 )::(q2 )::(Obj.mk (.type "tuple") none (Data.seq (List.toArray ((.str "_law_cond_here" 483)::[])) 0) #[])::(q1 )::(q3 "_law_flat" 31)::o198::o199::(q1 )::(q2 )::(q7 "_law_state" 490 "_law_some" 491 "_law_cut" 492)::(q1 )::(q3 "_law_nested" 32)::o205::o206::(q1 )::(q2 )::(Obj.mk (.type "tuple") none (Data.seq (List.toArray ((.str "_law_some" 499)::[])) 0) #[])::(q1 )::(q3 "_law_due_joined" 33)::o212::o213::(q1 )::(q2 )::(q3 "_law_alike_due" 34)::o217::o218::(q1 )::(q2 )::(q9 "_law_found" 512 "_law_due" 513)::(q1 )::(q3 "_law_same_list" 35)::o224::o225::(q1 )::(q2 )::(q3 "law" 36)::o229::o230::l
noncomputable def owZ:Params->Heap:=fun P=>.mk (.mk ((ows0 P (o3 P) (o12) (ows1 P  (ows2 P  []))))) owLi
noncomputable def owM:Params->Heap:=fun P=>.mk (.mk ((W.boot_o_0 P)::(W.boot_o_1 P)::(W.boot_o_2 P)::(W.boot_o_3 P)::(W.boot_o_4 P)::(W.boot_o_5 P)::(W.boot_o_6 P)::(W.boot_o_7 P)::(W.boot_o_8 P)::(W.boot_o_9 P)::(W.boot_o_10 P)::(q1 )::o12z::(Obj.mk (.type "code") none (Data.fields (List.toArray ((.str "<module>" 182)::((.str "<module>" 183)::((.str "/claim/cut.py" 184)::((.int 1 0)::((.int 0 0)::((.int 0 0)::((.int 0 0)::((.int 0 0)::((.ref 11)::((.bool false)::((.int 181 0)::((.ref 12)::(.none::(.none::(.none::(.none::((.int 185 0)::((.int 1 0)::((.str "/claim/cut.py" 186)::[]))))))))))))))))))))) #[])::(Obj.mk (.type "frame") none Data.plain (List.toArray ((some (.ref 13))::((some (.ref 3))::((some (.ref 3))::(none::((some (.str "__main__" 164))::(none::((some (.ref 0))::[])))))))))::[])) owLi
noncomputable def owN0:Params->Heap:=fun P=>.mk (.mk ((ows0 P (o3a P) (o12a) []))) owLi
noncomputable def owN1:Params->Heap:=fun P=>.mk (.mk ((ows0 P (o3b P) (o12b) (ows1 P  [])))) owLi
def owB:List Stmt:=behindTheImports owP
def owEn:Env:=⟨owP.main.scope,mainNs,mainNs,[],Str.empty,none,.ref 13,some 14,0⟩
abbrev owCo:Code:=.body owB owEn
noncomputable def owF:Params->Frag:=fun P=>
 ((nat_lit 3),o3 P) ::
 ((nat_lit 20),o20) ::
 ((nat_lit 21),o21) ::
 ((nat_lit 27),o27) ::
 ((nat_lit 28),o28) ::
 ((nat_lit 32),o32) ::
 ((nat_lit 33),o33) ::
 ((nat_lit 39),o39) ::
 ((nat_lit 40),o40) ::
 ((nat_lit 46),o46) ::
 ((nat_lit 47),o47) ::
 ((nat_lit 53),o53) ::
 ((nat_lit 54),o54) ::
 ((nat_lit 60),o60) ::
 ((nat_lit 61),o61) ::
 ((nat_lit 67),o67) ::
 ((nat_lit 68),o68) ::
 ((nat_lit 74),o74) ::
 ((nat_lit 75),o75) ::
 ((nat_lit 81),o81) ::
 ((nat_lit 82),o82) ::
 ((nat_lit 86),o86) ::
 ((nat_lit 87),o87) ::
 ((nat_lit 91),o91) ::
 ((nat_lit 92),o92) ::
 ((nat_lit 98),o98) ::
 ((nat_lit 99),o99) ::
 ((nat_lit 103),o103) ::
 ((nat_lit 104),o104) ::
 ((nat_lit 110),o110) ::
 ((nat_lit 111),o111) ::
 ((nat_lit 115),o115) ::
 ((nat_lit 116),o116) ::
 ((nat_lit 120),o120) ::
 ((nat_lit 121),o121) ::
 ((nat_lit 127),o127) ::
 ((nat_lit 128),o128) ::
 ((nat_lit 132),o132) ::
 ((nat_lit 133),o133) ::
 ((nat_lit 137),o137) ::
 ((nat_lit 138),o138) ::
 ((nat_lit 144),o144) ::
 ((nat_lit 145),o145) ::
 ((nat_lit 151),o151) ::
 ((nat_lit 152),o152) ::
 ((nat_lit 158),o158) ::
 ((nat_lit 159),o159) ::
 ((nat_lit 165),o165) ::
 ((nat_lit 166),o166) ::
 ((nat_lit 170),o170) ::
 ((nat_lit 171),o171) ::
 ((nat_lit 177),o177) ::
 ((nat_lit 178),o178) ::
 ((nat_lit 184),o184) ::
 ((nat_lit 185),o185) ::
 ((nat_lit 191),o191) ::
 ((nat_lit 192),o192) ::
 ((nat_lit 198),o198) ::
 ((nat_lit 199),o199) ::
 ((nat_lit 205),o205) ::
 ((nat_lit 206),o206) ::
 ((nat_lit 212),o212) ::
 ((nat_lit 213),o213) ::
 ((nat_lit 217),o217) ::
 ((nat_lit 218),o218) ::
 ((nat_lit 224),o224) ::
 ((nat_lit 225),o225) ::
 ((nat_lit 229),o229) ::
 ((nat_lit 230),o230) ::
 []
noncomputable def owA:List Nat:=(nat_lit 3)::(nat_lit 20)::(nat_lit 21)::(nat_lit 27)::(nat_lit 28)::(nat_lit 32)::(nat_lit 33)::(nat_lit 39)::(nat_lit 40)::(nat_lit 46)::(nat_lit 47)::(nat_lit 53)::(nat_lit 54)::(nat_lit 60)::(nat_lit 61)::(nat_lit 67)::(nat_lit 68)::(nat_lit 74)::(nat_lit 75)::(nat_lit 81)::(nat_lit 82)::(nat_lit 86)::(nat_lit 87)::(nat_lit 91)::(nat_lit 92)::(nat_lit 98)::(nat_lit 99)::(nat_lit 103)::(nat_lit 104)::(nat_lit 110)::(nat_lit 111)::(nat_lit 115)::(nat_lit 116)::(nat_lit 120)::(nat_lit 121)::(nat_lit 127)::(nat_lit 128)::(nat_lit 132)::(nat_lit 133)::(nat_lit 137)::(nat_lit 138)::(nat_lit 144)::(nat_lit 145)::(nat_lit 151)::(nat_lit 152)::(nat_lit 158)::(nat_lit 159)::(nat_lit 165)::(nat_lit 166)::(nat_lit 170)::(nat_lit 171)::(nat_lit 177)::(nat_lit 178)::(nat_lit 184)::(nat_lit 185)::(nat_lit 191)::(nat_lit 192)::(nat_lit 198)::(nat_lit 199)::(nat_lit 205)::(nat_lit 206)::(nat_lit 212)::(nat_lit 213)::(nat_lit 217)::(nat_lit 218)::(nat_lit 224)::(nat_lit 225)::(nat_lit 229)::(nat_lit 230)::[]
theorem owE (P:Params):owA=(owF P).map (·.1):=rfl
noncomputable abbrev owH:Hook:=kHook owF owA owE
set_option maxHeartbeats 0 in
theorem ow1 (w:World):((boot_heap w.params).isNs mainGlobals&&(#[]:Array GenState).size==0,(boot_heap w.params).objs.size,(boot_heap w.params).nsMap mainGlobals "__annotations__")=(true,11,some (.ref 6)):=by kernel_rfl
set_option maxHeartbeats 0 in
theorem owc (w:World)(os:OsState):topGo treeTable owP w 11 (some (.ref 6)) 12 ⟨boot_heap w.params,#[],boot_drawn,boot_toks,os⟩ (topStub owP)=some (⟨owM w.params,#[],⟨0,0,0,0⟩,187,os⟩,⟨denote treeTable owCo,owCo,⟨0,0,0,0⟩,[topFrame ⟨0,0,0,0⟩]⟩):=by kernel_rfl
set_option maxHeartbeats 0 in
theorem owd (w:World)(os:OsState):segRun treeTable owP w 11 (some (.ref 6)) 1 1 ⟨owM w.params,#[],⟨0,0,0,0⟩,187,os⟩ (blockOf owB owEn owCo ⟨0,0,0,0⟩ [topFrame ⟨0,0,0,0⟩])=some (.next,⟨owM w.params,#[],⟨0,0,0,0⟩,187,os⟩,owCo,⟨0,0,0,0⟩):=by kernel_rfl
set_option maxHeartbeats 0 in
theorem owe0 (w:World)(os:OsState):segRun treeTable owP w 11 (some (.ref 6)) 1 392 ⟨owM w.params,#[],⟨0,0,0,0⟩,187,os⟩ (piecesOf (owB.take 15) owEn owCo ⟨0,0,0,0⟩ [topFrame ⟨0,0,0,0⟩])=some (.next,⟨owN0 w.params,#[],⟨0,0,0,0⟩,299,os⟩,owCo,⟨87,0,100,28⟩):=by kernel_rfl
set_option maxHeartbeats 0 in
theorem owe1 (w:World)(os:OsState):segRun treeTable owP w 11 (some (.ref 6)) 1 385 ⟨owN0 w.params,#[],⟨0,0,0,0⟩,299,os⟩ (piecesOf ((owB.drop 15).take 12) owEn owCo ⟨87,0,100,28⟩ [topFrame ⟨0,0,0,0⟩])=some (.next,⟨owN1 w.params,#[],⟨0,0,0,0⟩,429,os⟩,owCo,⟨201,0,212,103⟩):=by kernel_rfl
set_option maxHeartbeats 0 in
theorem owg (w:World)(os:OsState):topRun treeTable owP w 11 (some (.ref 6)) 410 ⟨owN1 w.params,#[],⟨0,0,0,0⟩,429,os⟩ (restOf ((owB.drop 15).drop 12) owEn owCo ⟨201,0,212,103⟩ [topFrame ⟨0,0,0,0⟩])=some ⟨owZ w.params,#[],⟨0,0,0,0⟩,523,os⟩:=by kernel_rfl
theorem ow2 (w:World)(os:OsState):topRun treeTable owP w 11 (some (.ref 6)) 1200 ⟨boot_heap w.params,#[],boot_drawn,boot_toks,os⟩ (topStub owP)=some ⟨owZ w.params,#[],⟨0,0,0,0⟩,523,os⟩:=
 go_top (N:=1188) (owc w os) (piece_block (N:=1187) (owd w os) ((List.take_append_drop 15 owB)▸piece_app (N:=795) (owe0 w os) (((List.take_append_drop 12 (owB.drop 15))▸piece_app (N:=410) (owe1 w os) (owg w os)))))
set_option maxHeartbeats 0 in
theorem ow3 (w:World):(fun os=>((staticsOk (importedModules owP.main.body) (boot_heap w.params) (owZ w.params)&&namesBound owP (owZ w.params)&&gensDone ⟨owZ w.params,#[],⟨0,0,0,0⟩,523,os⟩&&laidKept (boot_heap w.params) (owZ w.params)),
    openSeen owQ [] (importedModules owP.main.body) (fun s=>xlAt owQ [] s&&recOk [] s) true ⟨owZ w.params,#[],⟨0,0,0,0⟩,523,os⟩,Hook.obs owH ⟨owZ w.params,#[],⟨0,0,0,0⟩,523,os⟩))=fun _=>(true,openGood owQ [],Hook.val owH w):=by kernel_rfl
theorem left_own:LeftO owP owQ [] (fun s=>xlAt owQ [] s&&recOk [] s) (Hook.obs owH) (Hook.val owH) 1200:=
 LeftO.of_pieces (boot_open (by kernel_rfl) (by decide) fun _=>by kernel_rfl) ow1 ow2 rfl ow3
end K07
namespace K07
open PySem L2
theorem zjS {x:Str}{r:Int}(h0:0<=r)(h1:r<(x.length:Int)):∃ c,x.cps[r.toNat]?=some c/\c∈x.cps.toList:=by
 have hl:r.toNat<x.cps.size:=by
  have:x.length=x.cps.size:=rfl;omega
 exact⟨x.cps[r.toNat],Array.getElem?_eq_getElem hl,by simp⟩
section
variable {P:Program}{w:World}{K:Frag}{mg:Str->Option Value}{base:Heap}{tk:Addr}{td:FuncData}
structure Tk (P:Program)(w:World)(K:Frag)(mg:Str->Option Value)(base:Heap)(tk:Addr)(td:FuncData):Prop where
 G:FnOk P w K mg base CX0 2 tk td ["_law_state","_law_most"] (spTake K)
 b:Binds K td ["_law_state","_law_most"] []
 k:PySem.W.keepIn K (.ref tk)=true
 m:mg "_law_take"=some (.ref tk)
def Lets (z:Str):Prop:=∀ c∈z.cps.toList,97<=c/\c<=122
theorem zfA:Lets "":=fun c h=>by cases h
theorem zej:Lets "abcdefghijklmnopqrstuvwxyz":=by unfold Lets;decide +kernel
theorem zei {z:Str}{c:Nat}(h:Lets z)(hc:c∈("abcdefghijklmnopqrstuvwxyz":Str).cps.toList):Lets (z++⟨#[c]⟩):=fun u hu=>by
 have e:(z++(⟨#[c]⟩:Str)).cps.toList=z.cps.toList++[c]:=by
  show(z.cps++#[c]).toList=_;simp
 rw[e,List.mem_append] at hu;rcases hu with q|q
 ·exact h u q
 ·rw[List.mem_singleton.mp q];exact zej c hc
def WdOk (B:Bs):Prop:=B.x.length<=3/\Lets B.x/\0<=B.z/\B.z<26/\0<=B.y/\B.y<=(B.x.length:Int)
def spBegin (K:Frag):Sp:=fun vs H Q _=>∃ a,vs=[.ref a]/\Scr K H a/\∀(d:Addr)(B:Bs)(H':Hp),H d=none->WdOk B->StAt H' d a 10 B->Same H H'->Q (.ref d) H'
theorem scBegin:FnScope ["_law_script","_law_way","_law_state","_law_letters","_law_k"] ["_law_script"] (defScope sBegin):=⟨rfl,rfl,rfl,by decide +kernel,rfl,by decide +kernel,by decide +kernel⟩
def KV6 (a:Addr)(wy:Int):List (Key×V):=[(.inr "script",.ref a),(.inr "at",.int 1),(.inr "left",.int 0),(.inr "way",.int wy),(.inr "names",.int 0),(.inr "parts",.int 0)]
def KV3:List (Key×V):=[(.inr "base",.str ""),(.inr "turn",.int 0),(.inr "spot",.int 0)]
theorem kv6 (a:Addr)(wy:Int):mergeK [] (KV6 a wy)=KV6 a wy:=zbw (KV6 a wy) [] (show([.inr "script",.inr "at",.inr "left",.inr "way",.inr "names",.inr "parts"]:List Key).Nodup by decide +kernel)
theorem kv3:mergeK [] KV3=KV3:=zbw KV3 [] (show([.inr "base",.inr "turn",.inr "spot"]:List Key).Nodup by decide +kernel)
theorem kv9 (a:Addr)(wy:Int):mergeK (KV6 a wy) KV3=SK.zip (SV a 1 0 wy ⟨0,0,"",0,0,none⟩):=by
 rw[zbw KV3 (KV6 a wy) (show SK.Nodup from zml)];rfl
theorem zav:("abcdefghijklmnopqrstuvwxyz":Str).length=26:=by decide +kernel
theorem zja {f:Addr}{fd:FuncData}(F:Fun K "_law_begin" "_law_begin" sBegin f fd)(B:Bt mg)(T:Tk P w K mg base tk td):FnOk P w K mg base CX0 3 f fd ["_law_script"] (spBegin K):=by
 refine F.ok scBegin (fun vs H Q E h=>?_) (fun cdv A outer s H vs Q E hr h=>?_)
 ·obtain⟨a,rfl,_⟩:=h;rfl
 obtain⟨a,rfl,Sc,q⟩:=h;have hu:=zdp hr
 refine⟨_,zan (zba (i:=1) scBegin.nd rfl (Or.inl rfl) zaq)
  (zan (ziQ (zcc ziW (zau zaH (by rfl) B.len PySem.boot_len (zaf (pv 0) pa_nil)) zaq (nomark _)) (zaU (zba (i:=1) scBegin.nd rfl (Or.inl rfl) (zaC zcs (ziU ix_list (pv 0) zaq (fun _ _=>rfl)) zaq))) pss_nil)
  (zan (zba (i:=2) scBegin.nd rfl (Or.inl rfl) (zeV (zaE zao (pv 0) (zaE zao zaq (zaE zao zaq (zaE zao (pv 1) (zaE zao zaq (zaE zao zaq zeT)))))) rfl rfl (by simp) (by decide)))
  (zan (zgS (zfT PySem.F.plainAttrs_dict PySem.F.slot_dict_update PySem.F.type_dict_update zhn (pv 2) (zaf (zeV (zaE zao zao (zaE zao zaq (zaE zao zaq zeT))) rfl rfl (by simp) (by decide)) pa_nil)))
  (zan (zba (i:=3) scBegin.nd rfl (Or.inl rfl) zao)
  (zan (zjY PassesOwn.never rfl (zee (by rfl) B.range (zaf (zaV T.G hr rfl T.m T.k T.b .nil zdl (zaf (pv 2) (zaf zaq pa_nil))) pa_nil)) (zhc (i:=4) scBegin.nd rfl (Or.inl rfl))
   (zaU (zbd hu (pv 2) zao (zaC op_add_str (zay hu (pv 2) zao (fun _ _=>rfl)) (zeU (pv 3) (zaV T.G hr rfl T.m T.k T.b .nil zdl (zaf (pv 2) (zaf zaq pa_nil))) (fun _ _=>rfl))) rfl)))
  (zan (zbd hu (pv 2) zao (zaV T.G hr rfl T.m T.k T.b .nil zdl (zaf (pv 2) (zaf zaq pa_nil))) rfl)
  (zan (zbd hu (pv 2) zao (zaV T.G hr rfl T.m T.k T.b .nil zdl (zaf (pv 2) (zaf (zaC op_add (zau zeH (by rfl) B.len PySem.boot_len (zaf (zay hu (pv 2) zao (fun _ _=>rfl)) pa_nil)) zaq) pa_nil))) rfl)
  (zaU (zcr (pv 2)))))))))),?_⟩
 obtain⟨ns,hS,hl⟩:=id Sc
 -- from the dict's making on,whatever the way is
 have go:∀ wy:Int,∀ p,H p=none->∀ p2,(upd (upd H p (.dK [])) p (.dK (KV6 a wy))) p2=none ->
   StAt (upd (upd (upd (upd (upd H p (.dK [])) p (.dK (KV6 a wy))) p2 (.dK [])) p2 (.dK KV3)) p (.dK (SK.zip (SV a 1 0 wy ⟨0,0,"",0,0,none⟩)))) p a 0 ⟨0,0,"",0,0,none⟩ /\
   But p H (upd (upd (upd (upd (upd H p (.dK [])) p (.dK (KV6 a wy))) p2 (.dK [])) p2 (.dK KV3)) p (.dK (SK.zip (SV a 1 0 wy ⟨0,0,"",0,0,none⟩)))):=fun wy p hp p2 hp2=>by
  have n2:p≠p2:=zag (o:=.dK (KV6 a wy)) zab hp2;refine⟨⟨⟨1,0,wy,zab,by decide,by decide,by decide⟩,fun T o z=>by cases z⟩,?_⟩;have b1:But p H (upd (upd H p (.dK [])) p (.dK (KV6 a wy))):=((But.refl p H).upd _).upd _;refine But.upd ?_ _;intro c o e n;have n3:c≠p2:=zag (b1 c o e n) hp2;rw[zad n3,zad n3];exact b1 c o e n
 have fin:∀(wy:Int)(p:Addr)(H1:Hp)(B0:Bs)(hp:H p=none)(S1:StAt H1 p a 0 B0)(b1:But p H H1)(e0:B0.x.length=0),∀ r:Int,0<=r->r<4->True:=fun _ _ _ _ _ _ _ _ _ _ _=>trivial;refine⟨_,rfl,a,_,rfl,.inl hS,_,_,rfl,rfl,_,rfl,?_⟩;refine ite2 (fun c=>?_) (fun c=>?_)
 ·have c':(0:Int)<((ns.map V.int).length:Int):=of_decide_eq_true c;rw[List.length_map] at c';obtain⟨v,hv⟩:=zio (ns:=ns) (k:=0) (by decide) c';refine⟨_,rfl,a,_,_,_,rfl,rfl,hS,hv,_,_,rfl,rfl,(by show(0:Int)<2;decide),?_⟩;refine fun p hp=>⟨_,rfl,_,rfl,zab,KV6 a (v % 2),rfl,(by show 6<=15;decide),?_⟩;rw[kv6];refine⟨_,rfl,.inr (.inr (.inl ⟨rfl,.inl ⟨_,zab⟩⟩)),fun p2 hp2=>⟨zab,KV3,rfl,by decide,?_⟩⟩;rw[kv3];have n2:p≠p2:=zag (o:=.dK (KV6 a (v % 2))) zab hp2;refine⟨p,p2,KV6 a (v % 2),KV3,rfl,rfl,n2,(by rw[zad n2,zad n2,zab]),zab,(by show 6+3<=sizeLine;decide),?_⟩;rw[kv9];obtain⟨S1,b1⟩:=go (v % 2) p hp p2 hp2;generalize upd (upd (upd (upd (upd H p (.dK [])) p (.dK (KV6 a (v % 2)))) p2 (.dK [])) p2 (.dK KV3)) p (.dK (SK.zip (SV a 1 0 (v % 2) ⟨0,0,"",0,0,none⟩)))=H1 at S1 b1 ⊢
  have sc:∀{H2:Hp},But p H H2->Scr K H2 a:=fun {H2} b=>⟨ns,by
   rcases hS with (h|⟨o,h⟩)|h
   ·exact .inl (.inl (b _ _ h (zag h hp)))
   ·exact .inl (.inr ⟨o,b _ _ h (zag h hp)⟩)
   ·exact .inr h,hl⟩
  refine⟨_,rfl,p,a,0,_,4,rfl,S1,sc b1,by decide,by decide,by decide,fun r H2 r0 r1 S2 b2=>⟨r,rfl,by omega,by omega,zev (lo:=0) (n:=r.toNat)
   (fun i σ H3=>∃(u:Option V)(B1:Bs),σ=[some (.ref a),some (.int (v % 2)),some (.ref p),some (.str "abcdefghijklmnopqrstuvwxyz"),u]/\But p H H3/\StAt H3 p a (1+i) B1/\B1.x.length<=i/\Lets B1.x) ⟨none,_,rfl,b1.trans b2,S2,Nat.le_refl _,zfA⟩ ?_ ?_⟩⟩
  ·rintro i σ H3 hi ⟨u,B1,rfl,b3,S3,h3,h3l⟩;obtain⟨t,l,wy,hd3,_⟩:=S3.ex;refine⟨_,rfl,p,_,rfl,dget (i:=6) hd3 rfl rfl,_,rfl,_,rfl,p,a,1+i,B1,26,rfl,S3,sc b3,by omega,by decide,by decide,fun r2 H4 s0 s1 S4 b4=>?_⟩;obtain⟨c,hc,hcm⟩:=zjS (x:="abcdefghijklmnopqrstuvwxyz") (r:=r2) s0 (by rw[zav];exact s1);refine⟨_,r2,c,rfl,rfl,s0,by omega,by rw[zav];exact s1,hc,?_⟩;have hz:B1.x.length+(⟨#[c]⟩:Str).length<=i+1:=Nat.add_le_add h3 (Nat.le_refl 1);have hz2:i+1<=sizeLine:=Nat.le_of_lt (zas (by omega));obtain⟨t4,l4,w4,hd4,g1,g2,g3⟩:=S4.ex;refine⟨_,_,rfl,rfl,Nat.le_trans hz hz2,_,rfl,p,_,rfl,dput (i:=6) hd4 rfl rfl,?_⟩;refine⟨_,{ B1 with x:=B1.x++⟨#[c]⟩ },rfl,(b3.trans b4).upd _,⟨⟨t4,l4,w4,zab,g1,by omega,g3⟩,S4.tbk rfl⟩,?_,zei h3l hcm⟩
   have e:(B1.x++(⟨#[c]⟩:Str)).length=B1.x.length+(⟨#[c]⟩:Str).length:=by
    show(B1.x.cps++#[c]).size=_;rw[Array.size_append];rfl
   show(B1.x++(⟨#[c]⟩:Str)).length<=i+1;omega
  ·rintro σ H3 ⟨u,B1,rfl,b3,S3,h3,h3l⟩;refine⟨_,rfl,p,a,1+r.toNat,B1,26,rfl,S3,sc b3,by omega,by decide,by decide,fun r2 H4 s0 s1 S4 b4=>?_⟩;obtain⟨t4,l4,w4,hd4,g1,g2,g3⟩:=S4.ex;refine⟨_,rfl,p,_,rfl,dput (i:=7) hd4 rfl rfl,?_⟩;have S5:StAt (upd H4 p (.dK (SK.zip ((SV a t4 l4 w4 B1).set 7 (.int r2))))) p a (1+r.toNat+1) { B1 with z:=r2 }:=⟨⟨t4,l4,w4,zab,g1,g2,g3⟩,S4.tbk rfl⟩;have b5:=(b3.trans b4).upd (.dK (SK.zip ((SV a t4 l4 w4 B1).set 7 (.int r2))));obtain⟨t5,l5,w5,hd5,_⟩:=S5.ex;refine⟨_,rfl,_,rfl,p,_,rfl,dget (i:=6) hd5 rfl rfl,_,rfl,Nat.le_trans h3 (Nat.le_of_lt (zas (by omega))),_,_,rfl,rfl,p,a,_,_,_,rfl,S5,sc b5,by omega,by omega,?_,fun r3 H6 u0 u1 S6 b6=>?_⟩
   ·have:(B1.x.length:Int)<=4:=by omega
    show(B1.x.length:Int)+1<2 ^ 200;omega
   obtain⟨t6,l6,w6,hd6,k1,k2,k3⟩:=S6.ex;refine⟨_,rfl,p,_,rfl,dput (i:=8) hd6 rfl rfl,_,rfl,?_⟩;refine q p { nm:=B1.nm,pt:=B1.pt,x:=B1.x,z:=r2,y:=r3,tb:=B1.tb } _ hp ⟨(by show B1.x.length<=3;omega),h3l,s0,s1,u0,(Int.lt_add_one_iff.mp u1)⟩ ⟨⟨t6,l6,w6,zab,k1,by omega,k3⟩,S6.tbk rfl⟩ fun c o e=>?_;exact((b5.trans b6).upd _) c o e (zag e hp)
 ·refine fun p hp=>⟨_,rfl,_,rfl,zab,KV6 a 0,rfl,(by show 6<=15;decide),?_⟩;rw[kv6];refine⟨_,rfl,.inr (.inr (.inl ⟨rfl,.inl ⟨_,zab⟩⟩)),fun p2 hp2=>⟨zab,KV3,rfl,by decide,?_⟩⟩;rw[kv3];have n2:p≠p2:=zag (o:=.dK (KV6 a 0)) zab hp2;refine⟨p,p2,KV6 a 0,KV3,rfl,rfl,n2,(by rw[zad n2,zad n2,zab]),zab,(by show 6+3<=sizeLine;decide),?_⟩;rw[kv9];obtain⟨S1,b1⟩:=go 0 p hp p2 hp2;generalize upd (upd (upd (upd (upd H p (.dK [])) p (.dK (KV6 a 0))) p2 (.dK [])) p2 (.dK KV3)) p (.dK (SK.zip (SV a 1 0 0 ⟨0,0,"",0,0,none⟩)))=H1 at S1 b1 ⊢
  have sc:∀{H2:Hp},But p H H2->Scr K H2 a:=fun {H2} b=>⟨ns,by
   rcases hS with (h|⟨o,h⟩)|h
   ·exact .inl (.inl (b _ _ h (zag h hp)))
   ·exact .inl (.inr ⟨o,b _ _ h (zag h hp)⟩)
   ·exact .inr h,hl⟩
  refine⟨_,rfl,p,a,0,_,4,rfl,S1,sc b1,by decide,by decide,by decide,fun r H2 r0 r1 S2 b2=>⟨r,rfl,by omega,by omega,zev (lo:=0) (n:=r.toNat)
   (fun i σ H3=>∃(u:Option V)(B1:Bs),σ=[some (.ref a),some (.int 0),some (.ref p),some (.str "abcdefghijklmnopqrstuvwxyz"),u]/\But p H H3/\StAt H3 p a (1+i) B1/\B1.x.length<=i/\Lets B1.x) ⟨none,_,rfl,b1.trans b2,S2,Nat.le_refl _,zfA⟩ ?_ ?_⟩⟩
  ·rintro i σ H3 hi ⟨u,B1,rfl,b3,S3,h3,h3l⟩;obtain⟨t,l,wy,hd3,_⟩:=S3.ex;refine⟨_,rfl,p,_,rfl,dget (i:=6) hd3 rfl rfl,_,rfl,_,rfl,p,a,1+i,B1,26,rfl,S3,sc b3,by omega,by decide,by decide,fun r2 H4 s0 s1 S4 b4=>?_⟩;obtain⟨c,hc,hcm⟩:=zjS (x:="abcdefghijklmnopqrstuvwxyz") (r:=r2) s0 (by rw[zav];exact s1);refine⟨_,r2,c,rfl,rfl,s0,by omega,by rw[zav];exact s1,hc,?_⟩;have hz:B1.x.length+(⟨#[c]⟩:Str).length<=i+1:=Nat.add_le_add h3 (Nat.le_refl 1);have hz2:i+1<=sizeLine:=Nat.le_of_lt (zas (by omega));obtain⟨t4,l4,w4,hd4,g1,g2,g3⟩:=S4.ex;refine⟨_,_,rfl,rfl,Nat.le_trans hz hz2,_,rfl,p,_,rfl,dput (i:=6) hd4 rfl rfl,?_⟩;refine⟨_,{ B1 with x:=B1.x++⟨#[c]⟩ },rfl,(b3.trans b4).upd _,⟨⟨t4,l4,w4,zab,g1,by omega,g3⟩,S4.tbk rfl⟩,?_,zei h3l hcm⟩
   have e:(B1.x++(⟨#[c]⟩:Str)).length=B1.x.length+(⟨#[c]⟩:Str).length:=by
    show(B1.x.cps++#[c]).size=_;rw[Array.size_append];rfl
   show(B1.x++(⟨#[c]⟩:Str)).length<=i+1;omega
  ·rintro σ H3 ⟨u,B1,rfl,b3,S3,h3,h3l⟩;refine⟨_,rfl,p,a,1+r.toNat,B1,26,rfl,S3,sc b3,by omega,by decide,by decide,fun r2 H4 s0 s1 S4 b4=>?_⟩;obtain⟨t4,l4,w4,hd4,g1,g2,g3⟩:=S4.ex;refine⟨_,rfl,p,_,rfl,dput (i:=7) hd4 rfl rfl,?_⟩;have S5:StAt (upd H4 p (.dK (SK.zip ((SV a t4 l4 w4 B1).set 7 (.int r2))))) p a (1+r.toNat+1) { B1 with z:=r2 }:=⟨⟨t4,l4,w4,zab,g1,g2,g3⟩,S4.tbk rfl⟩;have b5:=(b3.trans b4).upd (.dK (SK.zip ((SV a t4 l4 w4 B1).set 7 (.int r2))));obtain⟨t5,l5,w5,hd5,_⟩:=S5.ex;refine⟨_,rfl,_,rfl,p,_,rfl,dget (i:=6) hd5 rfl rfl,_,rfl,Nat.le_trans h3 (Nat.le_of_lt (zas (by omega))),_,_,rfl,rfl,p,a,_,_,_,rfl,S5,sc b5,by omega,by omega,?_,fun r3 H6 u0 u1 S6 b6=>?_⟩
   ·have:(B1.x.length:Int)<=4:=by omega
    show(B1.x.length:Int)+1<2 ^ 200;omega
   obtain⟨t6,l6,w6,hd6,k1,k2,k3⟩:=S6.ex;refine⟨_,rfl,p,_,rfl,dput (i:=8) hd6 rfl rfl,_,rfl,?_⟩;refine q p { nm:=B1.nm,pt:=B1.pt,x:=B1.x,z:=r2,y:=r3,tb:=B1.tb } _ hp ⟨(by show B1.x.length<=3;omega),h3l,s0,s1,u0,(Int.lt_add_one_iff.mp u1)⟩ ⟨⟨t6,l6,w6,zab,k1,by omega,k3⟩,S6.tbk rfl⟩ fun c o e=>?_;exact((b5.trans b6).upd _) c o e (zag e hp)
end
end K07
namespace L2
open PySem
section
variable {M:Model}{A:Around}{E:Value->Shared->Prop}{s:Shared}
theorem zpc {src:Source}{n:Nat}{Q:Nat->Shared->Prop}(hn:n≠0)(h:∀ i dr,i<n->Q i { s with drawn:=dr }):wpAny M A (choose src n) Q E s:=fun Γ p hΓ=>by
 show Sem.wp M Γ (Sem.choose src n .pure) _ _ _ _;rw[Sem.wp_choose];exact⟨hn,h _ _ (Nat.mod_lt _ (Nat.pos_of_ne_zero hn))⟩
theorem zcn {α:Type}:∀(l:List α)(i:Nat)(h:i<l.length),(l[i]::l.eraseIdx i).Perm l
 |a::r,0,_=>.refl _
 |a::r,i+1,h=>by
  have hi:i<r.length:=by simpa using h
  show(r[i]::a::r.eraseIdx i).Perm (a::r);exact(List.Perm.swap a r[i] (r.eraseIdx i)).trans ((zcn r i hi).cons a)
theorem draw_any {α:Type}:∀(n:Nat)(xs:List α)(s:Shared)(Q:List α->Shared->Prop),xs.length=n->(∀ ys dr,ys.Perm xs->Q ys { s with drawn:=dr })->wpAny M A (drawOrder n xs) Q E s
 |0,[],s,Q,_,h=>by
  unfold drawOrder;exact wpAny_pure (h [] s.drawn (.refl _))
 |0,_::_,_,_,hl,_=>by simp at hl
 |n+1,[],_,_,hl,_=>by simp at hl
 |n+1,x::r,s,Q,hl,h=>by
  show wpAny M A (choose .order (x::r).length >>= fun i=>_) Q E s;refine wpAny_bind (zpc (by simp) fun i dr hi=>?_);rw[List.getElem?_eq_getElem hi];dsimp only;refine wpAny_bind (draw_any n ((x::r).eraseIdx i) _ _ (by rw[List.length_eraseIdx_of_lt hi];simpa using hl) fun ys dr' hp=>?_);exact wpAny_pure (h _ dr' ((hp.cons _).trans (zcn _ i hi)))
end
theorem zhb {α:Type}(next:Nat->Nat):∀(fuel k:Nat)(left:List α)(out:Array α),left.length=fuel->(pickOrder.go next fuel k left out).toList.Perm (out.toList++left)
 |0,_,[],out,_=>by
  unfold pickOrder.go;rw[List.append_nil]
 |0,_,_::_,_,hl=>by simp at hl
 |fuel+1,k,left,out,hl=>by
  unfold pickOrder.go;have hpos:0<left.length:=by omega
  have hi:next k % left.length<left.length:=Nat.mod_lt _ hpos
  rw[List.getElem?_eq_getElem hi];dsimp only;refine(zhb next fuel (k+1) _ _ (by rw[List.length_eraseIdx_of_lt hi];omega)).trans ?_;rw[Array.toList_push,List.append_assoc];exact(zcn left _ hi).append_left _
theorem pick_perm {α:Type}(next:Nat->Nat)(xs:Array α):(pickOrder next xs).toList.Perm xs.toList:=by
 have z:=zhb next xs.size 0 xs.toList #[] (by simp)
 simpa [pickOrder] using z
theorem zgB (t:SetTable)(n:Nat):(t.orStandIn n).led=t.led/\((t.orStandIn n).plain=t.plain\/(t.orStandIn n).plain=false):=by
 unfold SetTable.orStandIn
 split
 ·exact⟨rfl,.inl rfl⟩
 ·exact⟨rfl,.inr rfl⟩
theorem zlo (t:SetTable)(es:Array (Int×Value))(h:Int)(x:Value):(layNew t es h x).2.1.led=t.led/\((layNew t es h x).2.1.plain=t.plain\/(layNew t es h x).2.1.plain=false):=by
 unfold layNew
 split
 ·rename_i slot wd _;exact zgB (t.put slot).1 _
 ·exact⟨rfl,.inr rfl⟩
theorem zgN (t:SetTable)(es:Array (Int×Value))(n:Nat):(relayAll t es n).2.1.led=t.led/\((relayAll t es n).2.1.plain=t.plain\/(relayAll t es n).2.1.plain=false):=by
 unfold relayAll
 split
 ·rename_i t' order e
  have ht:t'.led=t.led/\t'.plain=t.plain:=by
   unfold SetTable.relaid SetTable.laid at e
   cases hc:SetTable.layClean (SetTable.sizeAbove n-1) (es.map (·.1)) with
   |none=>rw[hc] at e;cases e
   |some ow=>
    rw[hc] at e;simp only[Option.pure_def,Option.bind_eq_bind,Option.bind_some,Option.some.injEq,Prod.mk.injEq] at e;rw[<- e.1];exact⟨rfl,rfl⟩
  dsimp only
  split
  ·exact⟨ht.1,.inl ht.2⟩
  ·exact⟨rfl,.inr rfl⟩
 ·exact⟨rfl,.inr rfl⟩
end L2
namespace L2
open PySem
def tx:Value->Str
 |.str z _=>z
 |_=>""
theorem zjh {prog:Program}{w:World}{z:Str}{v:Value}(h:(PySem.strKind prog w).is z v=true):tx v=z/\∃ t,v=.str z t:=by
 obtain⟨t,rfl⟩:=Value.isStrOf_shape h;exact⟨rfl,t,rfl⟩
theorem zmN (prog:Program)(w:World)(z:Str)(t:Tok):(PySem.strKind prog w).is z (.str z t)=true:=by
 show Value.isStrOf z (.str z t)=true;simp [Value.isStrOf]
def addz (zs:List Str)(z:Str):List Str:=if z∈zs then zs else zs++[z]
def ded (ys:List Str):List Str:=ys.foldl addz []
structure TAt (prog:Program)(w:World)(lb:Bool)(h:Heap)(a:Addr)(zs:List Str)(es:Array (Int×Value))(ep:Nat)(t:SetTable):Prop where
 get:∃ o,h.get? a=some o/\o.ExactSet/\o.data=.set es ep t
 el:ElemsOf (PySem.strKind prog w) es.toList
 few:es.size<scanBound
 fits:t.fits es.size=true
 led:t.led=lb
 pl:es.size=0\/t.plain=false
 ks:(es.toList.map fun e=>tx e.2).Perm zs
section
variable {prog:Program}{w:World}{A:Around}{E:Value->Shared->Prop}{s:Shared}{a:Addr}{lb:Bool}
theorem zgt {h:Heap}{o:Obj}{es es':Array (Int×Value)}{ep:Nat}{t t':SetTable}{zs:List Str}(ho:h.get? a=some o)(hx:o.ExactSet)(hd:o.data=.set es ep t)
  (el:ElemsOf (PySem.strKind prog w) es'.toList)(few:es'.size<scanBound)(fits:t'.fits es'.size=true)(led:t'.led=lb)(pl:es'.size=0\/t'.plain=false)(ks:(es'.toList.map fun e=>tx e.2).Perm zs) :
  (h.update a (Obj.putSet es' t')).get? a=some { o with data:=.set es' (ep+1) t' }/\TAt prog w lb (h.update a (Obj.putSet es' t')) a zs es' (ep+1) t':=by
 have g:(h.update a (Obj.putSet es' t')).get? a=some { o with data:=.set es' (ep+1) t' }:=by
  have z:=Heap.get?_update_self (Obj.putSet es' t') ho (by rw[putSet_of es' t' hd];rfl);rwa [putSet_of es' t' hd] at z
 exact⟨g,⟨_,g,hx,rfl⟩,el,few,fits,led,pl,ks⟩
theorem zjQ {g:Bool->Sem Unit}(hg:∀(b:Bool)(s₁:Shared)(Q':Unit->Shared->Prop),Q' () s₁->wpAny (model prog w) A (g b) Q' E s₁)
  {o:Obj}{es:Array (Int×Value)}{ep:Nat}{t:SetTable}(ho:s.heap.get? a=some o)(hx:o.ExactSet)(hd:o.data=.set es ep t)
  {e1:Array (Int×Value)}{t1:SetTable}{zs:List Str}(el:ElemsOf (PySem.strKind prog w) e1.toList)(few:e1.size<scanBound)(fits:t1.fits e1.size=true)(led:t1.led=lb)(pl:t1.plain=false)
  (ks:(e1.toList.map fun e=>tx e.2).Perm zs){dm:Bool}{R:Option Bool->Shared->Prop}
  (h:∀ h' e2 p2 t2,Heap.SameBut a s.heap h'->TAt prog w lb h' a zs e2 p2 t2->R (some true) { s with heap:=h' }) :
  wpAny (model prog w) A (do
    storeSet a e1 t1
    if (!dm&&t1.tooFull)=true then do
      g (relayAll t1 e1 (SetTable.grown e1.size)).2.2
      storeSet a (relayAll t1 e1 (SetTable.grown e1.size)).1 (relayAll t1 e1 (SetTable.grown e1.size)).2.1
      pure (some true)
     else pure (some true)) R E s:=by
 refine wpAny_bind (wpAny_storeSet_of ho hd ?_ (fits_of_scanBound few));obtain⟨o1,T1⟩:=zgt (prog:=prog) (w:=w) (lb:=lb) ho hx hd el few fits led (.inr pl) ks;have b1:=Heap.SameBut.update s.heap a (Obj.putSet e1 t1)
 split
 ·have p2:=relayAll_perm t1 e1 (SetTable.grown e1.size);have f2:=relayAll_fits t1 e1 (SetTable.grown e1.size);have l2:=zgN t1 e1 (SetTable.grown e1.size);generalize relayAll t1 e1 (SetTable.grown e1.size)=Rl at p2 f2 l2 ⊢;obtain⟨e2,t2,gv⟩:=Rl;dsimp only at p2 f2 l2 ⊢;have z2:e2.size=e1.size:=by rw[<- Array.length_toList,p2.length_eq,Array.length_toList]
  refine wpAny_bind (hg _ _ _ ?_);refine wpAny_bind (wpAny_storeSet_of o1 rfl ?_ (fits_of_scanBound (by rw[z2];exact few)));obtain⟨_,T2⟩:=zgt (prog:=prog) (w:=w) (lb:=lb) (zs:=zs) o1 hx rfl (el.perm p2) (by rw[z2];exact few) f2 (l2.1.trans led) (.inr (l2.2.elim (fun e=>e.trans pl) id)) ((p2.map _).trans ks);exact wpAny_pure (h _ _ _ _ (b1.trans (Heap.SameBut.update _ a _)) T2)
 ·exact wpAny_pure (h _ _ _ _ b1 T1)
theorem zkM {z:Str}{tk:Tok}{zs:List Str}{es:Array (Int×Value)}{ep:Nat}{t:SetTable}{Q:Bool->Shared->Prop}(T:TAt prog w lb s.heap a zs es ep t)(room:zs.length+1<scanBound)
  (h:∀ b h' e2 p2 t2,Heap.SameBut a s.heap h'->TAt prog w lb h' a (addz zs z) e2 p2 t2->Q b { s with heap:=h' }) :
  wpAny (model prog w) A (setAddHashed a (.str z tk) ((PySem.strKind prog w).hash z)) Q E s:=by
 obtain⟨⟨o,ho,hx,hd⟩,el,few,fits,led,pl,ks⟩:=T
 have hlen:es.size=zs.length:=by
  have q:=ks.length_eq;rwa [List.length_map,Array.length_toList] at q
 have hk:=zmN prog w z tk;have hsc:(Value.str z tk).scannable=true:=rfl;unfold setAddHashed setAddHashedIn;refine wpAny_holding (wpAny_bind (wpAny_setState_of ho hd fits ?_));dsimp only;rw[if_pos (byScan_of hsc few el)];refine wpAny_bind ?_;unfold setAddByScan;refine wpAny_bind (wpAny_rule ?_);refine wpAny_bind (wpAny_setScan_of hk ho hd fits el ?_)
 have hin:∀ e∈es.toList,((PySem.strKind prog w).is z e.2=true↔tx e.2=z):=fun e he=>by
  obtain⟨⟨k,hk',_⟩,_⟩:=el e he;obtain⟨e1,u,e2⟩:=zjh hk';refine⟨fun q=>(zjh q).1,fun q=>?_⟩;rw[e1] at q;subst q;exact hk'
 cases hr:List.findIdx? (fun e:Int×Value=>(PySem.strKind prog w).is z e.2) es.toList with
 |some j=>
  dsimp only;obtain⟨hj,hpj,_⟩:=List.findIdx?_eq_some_iff_getElem.mp hr;have hz:z∈zs:=ks.mem_iff.mp (List.mem_map.mpr ⟨es.toList[j],List.getElem_mem hj,(zjh hpj).1⟩);refine wpAny_pure (wpAny_pure ?_);have q:=h false s.heap es ep t (Heap.SameBut.refl a s.heap) ⟨⟨o,ho,hx,hd⟩,el,few,fits,led,pl,by unfold addz;rw[if_pos hz];exact ks⟩;cases s;exact q
 |none=>
  dsimp only
  have hz:z∉zs:=fun m=>by
   obtain⟨e,he,q⟩:=List.mem_map.mp (ks.mem_iff.mpr m);have no:=List.findIdx?_eq_none_iff.mp hr e he;rw[(hin e he).mpr q] at no;cases no
  have give:∀(b:Bool){s₁:Shared}{Q':Unit->Shared->Prop},Q' () s₁->wpAny (model prog w) A (match b with|true=>rule "set.scan.the-table-gave-way"|false=>pure ()) Q' E s₁:=fun b s₁ Q' q=>by
   cases b
   ·exact wpAny_pure q
   ·exact wpAny_rule q
  have p1:=layNew_perm t es ((PySem.strKind prog w).hash z) (.str z tk);have f1:=layNew_fits t es ((PySem.strKind prog w).hash z) (.str z tk);have l1:=zlo t es ((PySem.strKind prog w).hash z) (.str z tk);generalize layNew t es ((PySem.strKind prog w).hash z) (.str z tk)=L at p1 f1 l1 ⊢;obtain⟨e1,t1,dm,gv⟩:=L;dsimp only at p1 f1 l1 ⊢;rw[Array.toList_push] at p1;have el1:ElemsOf (PySem.strKind prog w) e1.toList:=(el.push hk hsc).perm p1;have z1:e1.size=es.size+1:=by rw[<- Array.length_toList,p1.length_eq,List.length_append,Array.length_toList];rfl
  have few1:e1.size<scanBound:=by rw[z1,hlen];exact room
  have ks1:(e1.toList.map fun e=>tx e.2).Perm (addz zs z):=by
   unfold addz;rw[if_neg hz];refine(p1.map _).trans ?_;rw[List.map_append];exact ks.append_right _
  refine wpAny_bind (give _ ?_);have fin:∀ h' e2 p2 t2,Heap.SameBut a s.heap h'->TAt prog w lb h' a (addz zs z) e2 p2 t2->Q true { s with heap:=h' }:=fun h' e2 p2 t2 b T2=>h true h' e2 p2 t2 b T2
  split
  ·refine wpAny_bind ?_;rw[hashByValue_scannable 8 hsc];refine wpAny_pure ?_;refine zjQ (prog:=prog) (w:=w) (lb:=lb) (zs:=addz zs z) (fun b s₁ Q' q=>?_) ho hx hd el1 few1 ?_ ?_ ?_ ks1 (fun h' e2 p2 t2 b T2=>?_)
   ·cases b
    ·exact wpAny_pure q
    ·exact wpAny_rule q
   ·split
    ·exact f1
    ·exact SetTable.fits_plain_off f1
   ·split
    ·exact l1.1.trans led
    ·exact l1.1.trans led
   ·rfl
   ·dsimp only;exact wpAny_pure (fin h' e2 p2 t2 b T2)
  ·rename_i hpl;refine wpAny_bind (wpAny_pure ?_);simp only[↓reduceIte];refine zjQ (prog:=prog) (w:=w) (lb:=lb) (zs:=addz zs z) (fun b s₁ Q' q=>?_) ho hx hd el1 few1 f1 (l1.1.trans led) (by simpa using hpl) ks1 (fun h' e2 p2 t2 b T2=>?_)
   ·cases b
    ·exact wpAny_pure q
    ·exact wpAny_rule q
   ·dsimp only;exact wpAny_pure (fin h' e2 p2 t2 b T2)
end
end L2
namespace L2
open PySem PyProof.Rows
theorem zgz:∀{vs:List Value}{ys:List Str},StrsAre vs ys->∀(i:Nat)(v:Value),vs[i]?=some v->∃ z t,ys[i]?=some z/\v=.str z t
 |_,_,.cons z t _,0,v,e=>by
  cases e;exact⟨z,t,rfl,rfl⟩
 |_,_,.cons _ _ r,i+1,v,e=>zgz r i v (by simpa using e)
 |_,_,.nil,i,v,e=>by simp at e
section
variable {prog:Program}{w:World}{A:Around}{R:Result->Shared->Prop}{I:Addr}{fp wr:List Addr}{G:Array GenState->Array GenState->Prop}{n:Nat}{P:Nat->Value->Prop}{St:Nat->Shared->Prop}{lb:Bool}
theorem TAt.moved {h h':Heap}{a:Addr}{zs:List Str}{es:Array (Int×Value)}{ep:Nat}{t:SetTable}(T:TAt prog w lb h a zs es ep t)(k:∀ o,h.get? a=some o->h'.get? a=some o):TAt prog w lb h' a zs es ep t:=by
 obtain⟨o,ho,x⟩:=T.get;exact⟨⟨o,k _ ho,x⟩,T.el,T.few,T.fits,T.led,T.pl,T.ks⟩
theorem zfm (ys:List Str):(ded ys).length<=ys.length:=by
 have q:∀(ys zs:List Str),(ys.foldl addz zs).length<=zs.length+ys.length:=by
  intro ys
  induction ys with
  |nil=>intro zs;simp
  |cons y r ih=>
   intro zs;refine Nat.le_trans (ih (addz zs y)) ?_
   have:(addz zs y).length<=zs.length+1:=by
    unfold addz
    split
    ·omega
    ·simp
   simp only[List.length_cons];omega
 have z:=q ys [];rw[List.length_nil,Nat.zero_add] at z;exact z
theorem zjy (ys:List Str)(z:Str):ded (ys++[z])=addz (ded ys) z:=by
 unfold ded;rw[List.foldl_append];rfl
theorem zgv (W:WalksS prog w A.in1 I fp wr G n P St)(S:Addr)(hSf:S∉fp)(ys:List Str)(hy:ys.length=n)(hval:∀ i v,P i v->∃ z t,ys[i]?=some z/\v=.str z t)(hb:n+1<scanBound) :
  ∀(k i:Nat)(s:Shared),n-i=k->i<=n->St i s->(∃ es ep t,TAt prog w lb s.heap S (ded (ys.take i)) es ep t) ->
   (∀ s',Moved (S::wr) G s s'->(∃ es ep t,TAt prog w lb s'.heap S (ded ys) es ep t)->R (.ok (.ret .none)) s')->codeAny (model prog w) A (.builtin "set.update.loop" ⟨[.ref S,.ref I],[]⟩) R s:=by
 have nw:S∉wr:=fun m=>hSf (W.sub _ m);have sub:∀ b∈wr,b∈S::wr:=fun b m=>List.mem_cons_of_mem _ m;intro k
 induction k with
 |zero=>
  intro i s hk hi st T fin;have e:i=n:=by omega
  subst e;refine codeAny_builtin PyProof.Rows.F.entry_set_update_loop ?_;rw[Around.under_plainId PyProof.Rows.F.plain_set_update_loop _];show wpAny _ A.in1 (pyNext (.ref I) >>= _) _ _ s;refine wpAny_bind (W.done s _ _ st fun s' mv=>?_);show wpAny _ A.in1 (ret Value.none) _ _ s';obtain⟨es,ep,t,T⟩:=T;rw[<- hy,List.take_length] at T;exact wpAny_pure (fin s' (mv.mono sub) ⟨es,ep,t,T.moved fun o e=>mv.heap S o nw e⟩)
 |succ k ih=>
  intro i s hk hi st T fin;have lt:i<n:=by omega
  refine codeAny_builtin PyProof.Rows.F.entry_set_update_loop ?_;rw[Around.under_plainId PyProof.Rows.F.plain_set_update_loop _];show wpAny _ A.in1 (pyNext (.ref I) >>= _) _ _ s;refine wpAny_bind (W.item i s _ _ lt st fun v s' hP st' mv=>?_);obtain⟨z,tk,hz,rfl⟩:=hval i v hP;obtain⟨es,ep,t,T⟩:=T;have T':=T.moved (h':=s'.heap) fun o e=>mv.heap S o nw e;show wpAny _ A.in1 (holding [Value.str z tk] (setAdd S (.str z tk)) >>= _) _ _ s';refine wpAny_bind (wpAny_holding ?_);unfold setAdd;refine wpAny_holding ?_;refine wpAny_bind ((PySem.strKind prog w).pyHash (k:=z) (zmN prog w z tk) ?_);have l1:=zfm (ys.take i);rw[List.length_take] at l1;refine zkM (s:={ s' with toks:=s'.toks+1 }) T' (by omega) fun b h' e2 p2 t2 sb T2=>?_;have et:ys.take (i+1)=ys.take i++[z]:=by rw[List.take_add_one,hz];rfl
  rw[<- zjy,<- et] at T2;refine wpAny_pure ⟨plainId_quiet PyProof.Rows.F.plain_set_update_loop _,ih (i+1) _ (by omega) lt (W.frame _ s' _ _ st' (Nat.le_succ _) fun c hc o e=>?_) ⟨e2,p2,t2,T2⟩ fun s2 mv2 T3=>?_⟩
  ·rw[sb.2 c (fun q:c=S=>hSf (q▸hc))];exact e
  ·refine fin s2 (Moved.trans W.gtrans ((mv.mono sub).then_heap (Nat.le_succ _) fun c o hc e=>?_) mv2) T3;rw[sb.2 c (fun q:c=S=>hc (q▸List.mem_cons_self))];exact e
end
section
variable {prog:Program}{w:World}{A:Around}{E:Value->Shared->Prop}{s:Shared}
def byT (w:World):Bool:=w.params.followText "set-order"
abbrev oSet (w:World):Obj:={ cls:=.type "set",dict:=none,data:=.set #[] 0 (.fresh 0 0 (!byT w)) }
theorem new_set1 (x:Value){Q₁:Value->Shared->Prop}(h:Q₁ (.ref s.heap.objs.size) { s with heap:=s.heap.push (oSet w) }):codeAny (model prog w) A (.call (.builtin "set.__new__") ⟨[.type "set",x],[]⟩) (wants Q₁ E) s:=by
 refine codeAny_of_tree ?_;show wpAny _ A.in1 (do checkBuiltinCall "set.__new__" ⟨[.type "set",x],[]⟩;again (.builtin "set.__new__" ⟨[.type "set",x],[]⟩)) _ _ s;refine wpAny_bind (wpAny_of_eq (PySem.F.newCall_set_1 x) (wpAny_pure ⟨plainId_quiet PySem.F.plain_set_new _,codeAny_builtin PySem.F.entry_set_new ?_⟩));rw[Around.under_plainId PySem.F.plain_set_new _];unfold Builtin.«set.__new__»;unfold Builtin.Frozenset.newClass;have q1:=PySem.sub_set_self;obtain⟨hp,gs,dr,tk,os⟩:=s;dsimp only;wp_walk;refine wpAny_askSetting (wpAny_pure ?_);dsimp only;simp only[newObj];exact wpAny_bind (wpAny_alloc (wpAny_pure (wpAny_pure h)))
end
end L2
namespace L2
open PySem PyProof.Rows
theorem zlN:entryFor table "set.__iter__"=some Builtin.«frozenset.__iter__»:=entryFor_alias (id':="frozenset.__iter__") (by kernel_rfl) rfl (by decide +kernel) (by kernel_rfl)
theorem sl_next:Slot "set_iterator" "__next__" "set_iterator.__next__":=.of (owner:="set_iterator") (n:="__next__") (by rw[typeLookup_type,builtinLookup_eq_fast];kernel_rfl) (by decide +kernel) (by decide +kernel)
 (by decide +kernel) (by first|exact .inl (by decide +kernel)|exact .inr (by decide +kernel)) (by rw[isSubtype_type];kernel_rfl)
theorem zgE:Slot "set_iterator" "__iter__" "set_iterator.__iter__":=.of (owner:="set_iterator") (n:="__iter__") (by rw[typeLookup_type,builtinLookup_eq_fast];kernel_rfl) (by decide +kernel) (by decide +kernel)
 (by decide +kernel) (by first|exact .inl (by decide +kernel)|exact .inr (by decide +kernel)) (by rw[isSubtype_type];kernel_rfl)
theorem zdQ:entryFor table "set_iterator.__next__"=some Builtin.«set_iterator.__next__»:=entryFor_of_tree (by kernel_rfl)
theorem zlM:entryFor table "set_iterator.__iter__"=some Builtin.«dict_keyiterator.__iter__»:=entryFor_alias (id':="dict_keyiterator.__iter__") (by kernel_rfl) rfl (by decide +kernel) (by kernel_rfl)
theorem znA:Manifest.owners.lookup (String.ofList ['r','o','t','a','r','e','t','i','_','t','e','s'].reverse)=some Manifest.sig_set_iterator:=by kernel_rfl
theorem zdV (a:Value):argsOk "set_iterator.__next__" ⟨[a],[]⟩:=by
 unfold argsOk;rw[signature?_of (id:="set_iterator.__next__") (n:=['_','_','t','x','e','n','_','_']) (o:=['r','o','t','a','r','e','t','i','_','t','e','s']) (by kernel_rfl) znA]
 kernel_rfl
theorem zmk (a:Value):argsOk "set_iterator.__iter__" ⟨[a],[]⟩:=by
 unfold argsOk;rw[signature?_of (id:="set_iterator.__iter__") (n:=['_','_','r','e','t','i','_','_']) (o:=['r','o','t','a','r','e','t','i','_','t','e','s']) (by kernel_rfl) znA]
 kernel_rfl
end L2
set_option maxHeartbeats 400000
namespace L2
open PySem PyProof.Rows
def drw (es:Array (Int×Value))(t:SetTable):Bool:=!t.plain&&decide (es.size > 1)
section
variable {prog:Program}{w:World}{A:Around}{E:Value->Shared->Prop}{s:Shared}{a:Addr}{zs:List Str}{es:Array (Int×Value)}{ep:Nat}{t:SetTable}
theorem TAt.ty (T:TAt prog w (!byT w) s.heap a zs es ep t):s.TypeIs (.ref a) "set":=by
 obtain⟨o,ho,hx,_⟩:=T.get;exact⟨o,ho,hx.1⟩
theorem zju {Q:Bool->Shared->Prop}(T:TAt prog w (!byT w) s.heap a zs es ep t)(h:Q (!byT w&&drw es t) s):wpAny (model prog w) A (setDrawn a) Q E s:=by
 obtain⟨o,ho,hx,hd⟩:=T.get;unfold setDrawn;refine wpAny_bind (wpAny_setState_of ho hd T.fits ?_);dsimp only;unfold setsByText;refine wpAny_bind (wpAny_bind (wpAny_askSetting (wpAny_pure ?_)));exact wpAny_pure h
def wlk (w:World)(a:Addr)(ep:Nat)(es:Array (Int×Value)):Array (Int×Value):=if byT w then pickOrder (w.params.setOrder a ep) es else es
def slt (w:World)(t:SetTable)(i:Nat):Nat:=if byT w then 0 else if i=0 then 0 else t.place.getD (i-1) 0+1
theorem zcC (w:World)(a:Addr)(ep:Nat)(es:Array (Int×Value)):(wlk w a ep es).toList.Perm es.toList:=by
 unfold wlk
 split
 ·exact pick_perm _ _
 ·exact .refl _
end
end L2
namespace L2
open PySem PyProof.Rows
def fnd (es:Array (Int×Value))(pl:Array Nat)(i:Nat):Option (Value×Nat):=match es[i]?,pl[i]? with
 |some (_,x),some j=>some (x,j+1)
 |_,_=>none
def slp (pl:Array Nat)(i:Nat):Nat:=if i=0 then 0 else pl.getD (i-1) 0+1
theorem zpm (j:Nat):SetTable.below #[j] 0=0:=by simp [SetTable.below,SetTable.below.go]
theorem zpl (j:Nat):SetTable.below #[j] (j+1)=1:=by simp [SetTable.below,SetTable.below.go]
theorem zhI:∀(es:Array (Int×Value))(pl:Array Nat)(i:Nat),pl.size=es.size->es.size<=1->i<=es.size->fnd es pl (SetTable.below pl (slp pl i))=(es[i]?).map fun e=>(e.2,slp pl (i+1))
 |⟨[]⟩,⟨[]⟩,0,_,_,_=>rfl
 |⟨[e]⟩,⟨[j]⟩,0,_,_,_=>by
  show fnd #[e] #[j] (SetTable.below #[j] 0)=_;rw[zpm];rfl
 |⟨[e]⟩,⟨[j]⟩,1,_,_,_=>by
  show fnd #[e] #[j] (SetTable.below #[j] (j+1))=_;rw[zpl];rfl
 |⟨[]⟩,⟨_::_⟩,_,hp,_,_=>by simp at hp
 |⟨[_]⟩,⟨[]⟩,_,hp,_,_=>by simp at hp
 |⟨[_]⟩,⟨_::_::_⟩,_,hp,_,_=>by simp at hp
 |⟨_::_::_⟩,_,_,_,hf,_=>by simp at hf
 |⟨[]⟩,⟨[]⟩,_+1,_,_,hi=>by simp at hi
 |⟨[_]⟩,⟨[_]⟩,_+2,_,_,hi=>by simp at hi
section
variable {prog:Program}{w:World}{A:Around}{E:Value->Shared->Prop}{s:Shared}{a:Addr}{zs:List Str}{es:Array (Int×Value)}{ep:Nat}{t:SetTable}
theorem zhm {i:Nat}{Q:Option (Value×Nat)->Shared->Prop}(T:TAt prog w (!byT w) s.heap a zs es ep t)(nd:(!byT w&&drw es t)=false)(hi:i<=es.size)
  (h:Q (((wlk w a ep es)[i]?).map fun e=>(e.2,slt w t (i+1))) s):wpAny (model prog w) A (setNext a (slt w t i) i ep) Q E s:=by
 obtain⟨o,ho,hx,hd⟩:=T.get;unfold setNext;refine wpAny_bind (wpAny_setState_of ho hd T.fits ?_);dsimp only;unfold setsByText;refine wpAny_bind (wpAny_bind (wpAny_askSetting (wpAny_pure ?_)));show wpAny _ _ (if byT w=true then _ else _) _ _ s;by_cases hb:byT w=true
 ·rw[if_pos hb];rw[if_neg (by simp)];unfold setWalk;refine wpAny_bind (wpAny_bind (wpAny_setState_of ho hd T.fits ?_));dsimp only;unfold setsByText;refine wpAny_bind (wpAny_bind (wpAny_askSetting (wpAny_pure ?_)));show wpAny _ _ (if byT w=true then _ else _) _ _ s;rw[if_pos hb];refine wpAny_bind (wpAny_askSetting (wpAny_pure (wpAny_pure ?_)));unfold wlk slt at h;rw[if_pos hb] at h;simp only[hb,if_true] at h ⊢;unfold slt;rw[if_pos hb];exact h
 ·have hb':byT w=false:=by simpa using hb
  rw[if_neg hb];have nd':drw es t=false:=by simpa [hb'] using nd
  show wpAny _ _ (if drw es t=true then _ else _) _ _ s;rw[if_neg (by rw[nd'];exact Bool.false_ne_true)];have hl:t.led=true:=by rw[T.led,hb'];rfl
  have few:es.size<=1:=by
   rcases T.pl with z|z
   ·omega
   ·simp only[drw,z,Bool.not_false,Bool.true_and,decide_eq_false_iff_not,Nat.not_lt] at nd';exact nd'
  have hp:t.place.size=es.size:=by
   have f:=T.fits;simp only[SetTable.fits,Bool.and_eq_true,beq_iff_eq] at f;exact f.1
  show wpAny _ _ ((if (!t.led&&!es.isEmpty)=true then _ else _) >>= _) _ _ s;rw[if_neg (by rw[hl];simp)];refine wpAny_bind (wpAny_pure (wpAny_pure ?_));show Q (fnd es t.place (SetTable.below t.place (slt w t i))) s;unfold wlk at h;rw[if_neg hb] at h
  have sl0:∀ j,slt w t j=slp t.place j:=fun j=>by
   unfold slt slp;rw[if_neg hb]
  rw[sl0] at h ⊢;rw[zhI es t.place i hp few hi];exact h
end
end L2
namespace L2
open PySem PyProof.Rows
def ItAt (h:Heap)(it a:Addr)(f:Value)(i n ep:Nat):Prop:=∃ o,h.get? it=some o/\o.cls=.type "set_iterator"/\o.data=.fields #[f,.int i 0,.ref a,.int n 0,.int ep 0]
section
variable {prog:Program}{w:World}{A:Around}{E:Value->Shared->Prop}{s:Shared}{it a:Addr}{zs:List Str}{es:Array (Int×Value)}{ep:Nat}{t:SetTable}
theorem ItAt.ty {f:Value}{i n:Nat}(x:ItAt s.heap it a f i n ep):s.TypeIs (.ref it) "set_iterator":=by
 obtain⟨o,ho,hc,_⟩:=x;exact⟨o,ho,hc⟩
theorem zoc {i:Nat}{x:Int×Value}{Q:Option Value->Shared->Prop}(T:TAt prog w (!byT w) s.heap a zs es ep t)(x1:ItAt s.heap it a (.int (slt w t i) 0) i es.size ep)(nd:(!byT w&&drw es t)=false)
  (hi:(wlk w a ep es)[i]?=some x)(h:∀ h',ItAt h' it a (.int (slt w t (i+1)) 0) (i+1) es.size ep->Heap.SameBut it s.heap h'->Q (some x.2) { s with heap:=h' }) :
  wpAny (model prog w) A (pyNext (.ref it)) Q E s:=by
 obtain⟨o,ho,hc,hd⟩:=id x1;obtain⟨oa,ha,hxa,hda⟩:=T.get
 have lt:i<es.size:=by
  have z:=(zcC w a ep es).length_eq;rw[Array.length_toList,Array.length_toList] at z;rw[<- z];exact(Array.getElem?_eq_some_iff.mp hi).1
 unfold pyNext;refine wpAny_bind (wpAny_attempt (wpAny_callSpecial?_slot (name:=Str.ofString "__next__") x1.ty sl_next (wpAny_call_entry sl_next x1.ty zdQ ?_ (zdV _))));unfold Builtin.«set_iterator.__next__»;refine wpAny_bind (wpAny_pure ?_);refine wpAny_bind (wpAny_fieldsOf ho hd ?_);dsimp only;refine wpAny_bind (wpAny_setEntries_of ha hda T.fits ?_);rw[if_neg (by simp)];refine wpAny_bind ?_;simp only[Int.toNat_natCast];refine zhm T nd (Nat.le_of_lt lt) ?_;rw[hi];dsimp only[Option.map_some];refine wpAny_bind (wpAny_setField ho hd (by simp) ?_);have o1:=Heap.get?_update_self (Obj.mapFields (·.setIfInBounds 0 (rawInt (slt w t (i+1))))) ho (Obj.isFreed_of_fields (Obj.data_mapFields hd _));refine wpAny_bind (wpAny_setField o1 (Obj.data_mapFields hd _) (by simp) ?_);refine wpAny_pure ⟨x.2,rfl,wpAny_pure (h _ ?_ ((Heap.SameBut.update ..).trans (Heap.SameBut.update ..)))⟩
 exact⟨_,Heap.get?_update_self _ o1 (Obj.isFreed_of_fields (Obj.data_mapFields (Obj.data_mapFields hd _) _)),((Obj.cls_mapFields ..).trans (Obj.cls_mapFields ..)).trans hc,by
  rw[Obj.data_mapFields (Obj.data_mapFields hd _)]
  simp [rawInt]⟩
theorem zoS {Q:Option Value->Shared->Prop}(hh:A.handled=none)(T:TAt prog w (!byT w) s.heap a zs es ep t)(x1:ItAt s.heap it a (.int (slt w t es.size) 0) es.size es.size ep)(nd:(!byT w&&drw es t)=false)
  (h:∀ h',Heap.ExtBut it s.heap h'->Q none { s with heap:=h' }):wpAny (model prog w) A (pyNext (.ref it)) Q E s:=by
 obtain⟨o,ho,hc,hd⟩:=id x1;obtain⟨oa,ha,hxa,hda⟩:=T.get
 have hi:(wlk w a ep es)[es.size]?=none:=by
  have z:=(zcC w a ep es).length_eq;rw[Array.length_toList,Array.length_toList] at z;exact Array.getElem?_eq_none (by omega)
 unfold pyNext;refine wpAny_bind (wpAny_attempt (wpAny_callSpecial?_slot (name:=Str.ofString "__next__") x1.ty sl_next (wpAny_call_entry sl_next x1.ty zdQ ?_ (zdV _))));unfold Builtin.«set_iterator.__next__»;refine wpAny_bind (wpAny_pure ?_);refine wpAny_bind (wpAny_fieldsOf ho hd ?_);dsimp only;refine wpAny_bind (wpAny_setEntries_of ha hda T.fits ?_);rw[if_neg (by simp)];refine wpAny_bind ?_;simp only[Int.toNat_natCast];refine zhm T nd (Nat.le_refl _) ?_;rw[hi];dsimp only[Option.map_none];refine wpAny_bind (wpAny_setField ho hd (by simp) ?_);show wpAny _ _ (newExc (.type "StopIteration") [] >>= _) _ _ _;refine wpAny_bind ?_;simp only[newExc,newTuple];refine wpAny_bind (wpAny_newObj_type ?_ (by size_fits));refine wpAny_bind (m:=firstArgMember _ _) (wpAny_of_eq (a:=Value.none) (by simp only[firstArgMember];rfl) ?_);refine wpAny_newObj_type ?_ (by size_fits);simp only[raiseNew];refine wpAny_bind (wpAny_handled ?_);rw[show A.in1.handled=none from hh];refine wpAny_bind (wpAny_pure (wpAny_throw ?_));refine wpAny_bind (wpAny_isInstance (T:="StopIteration") (b:=true) ⟨_,Heap.get?_push_size _ rfl,rfl⟩ isSubtype_stop ?_);exact wpAny_pure (h _ (((Heap.SameBut.update ..).extBut.push _).push _))
def PlAt (h:Heap)(p:Addr)(ks:List Nat):Prop:=∃ o n,h.get? p=some o/\o.data=.seq (ks.map fun(k:Nat)=>rawInt k).toArray n
theorem zod {p:Addr}{ks:List Nat}{i k:Nat}{x:Int×Value}{Q:Option Value->Shared->Prop}(T:TAt prog w (!byT w) s.heap a zs es ep t)(x1:ItAt s.heap it a (.ref p) i es.size ep)(x2:PlAt s.heap p ks)
  (hk:ks[i]?=some k)(hx:es[k]?=some x)(h:∀ h',ItAt h' it a (.ref p) (i+1) es.size ep->Heap.SameBut it s.heap h'->Q (some x.2) { s with heap:=h' }) :
  wpAny (model prog w) A (pyNext (.ref it)) Q E s:=by
 obtain⟨o,ho,hc,hd⟩:=id x1;obtain⟨oa,ha,hxa,hda⟩:=T.get;obtain⟨op,np,hop,hdp⟩:=x2;unfold pyNext;refine wpAny_bind (wpAny_attempt (wpAny_callSpecial?_slot (name:=Str.ofString "__next__") x1.ty sl_next (wpAny_call_entry sl_next x1.ty zdQ ?_ (zdV _))));unfold Builtin.«set_iterator.__next__»;refine wpAny_bind (wpAny_pure ?_);refine wpAny_bind (wpAny_fieldsOf ho hd ?_);dsimp only;refine wpAny_bind (wpAny_setEntries_of ha hda T.fits ?_);rw[if_neg (by simp)];refine wpAny_bind (wpAny_seqItems hop hdp ?_);dsimp only
 have e:(ks.map fun(k:Nat)=>rawInt k).toArray[(i:Int).toNat]?=some (.int k 0):=by
  rw[Int.toNat_natCast,List.getElem?_toArray,List.getElem?_map,hk];rfl
 rw[e];dsimp only;refine wpAny_bind ?_;unfold setNextDrawn;refine wpAny_bind (wpAny_setState_of ha hda T.fits ?_);dsimp only;rw[if_neg (by simp)];rw[Int.toNat_natCast,hx];refine wpAny_pure ?_;refine wpAny_bind (wpAny_setField ho hd (by simp) ?_);refine wpAny_pure ⟨x.2,rfl,wpAny_pure (h _ ?_ (Heap.SameBut.update ..))⟩
 exact⟨_,Heap.get?_update_self _ ho (Obj.isFreed_of_fields (Obj.data_mapFields hd _)),(Obj.cls_mapFields ..).trans hc,by
  rw[Obj.data_mapFields hd]
  simp [rawInt]⟩
theorem zoT {p:Addr}{ks:List Nat}{Q:Option Value->Shared->Prop}(hh:A.handled=none)(T:TAt prog w (!byT w) s.heap a zs es ep t)(x1:ItAt s.heap it a (.ref p) ks.length es.size ep)(x2:PlAt s.heap p ks)
  (h:∀ h',Heap.ExtBut it s.heap h'->Q none { s with heap:=h' }):wpAny (model prog w) A (pyNext (.ref it)) Q E s:=by
 obtain⟨o,ho,hc,hd⟩:=id x1;obtain⟨oa,ha,hxa,hda⟩:=T.get;obtain⟨op,np,hop,hdp⟩:=x2;unfold pyNext;refine wpAny_bind (wpAny_attempt (wpAny_callSpecial?_slot (name:=Str.ofString "__next__") x1.ty sl_next (wpAny_call_entry sl_next x1.ty zdQ ?_ (zdV _))));unfold Builtin.«set_iterator.__next__»;refine wpAny_bind (wpAny_pure ?_);refine wpAny_bind (wpAny_fieldsOf ho hd ?_);dsimp only;refine wpAny_bind (wpAny_setEntries_of ha hda T.fits ?_);rw[if_neg (by simp)];refine wpAny_bind (wpAny_seqItems hop hdp ?_);dsimp only
 have e:(ks.map fun(k:Nat)=>rawInt k).toArray[(ks.length:Int).toNat]?=none:=by
  rw[Int.toNat_natCast,List.getElem?_toArray,List.getElem?_map,List.getElem?_eq_none (Nat.le_refl _)];rfl
 rw[e];dsimp only;refine wpAny_bind (wpAny_setField ho hd (by simp) ?_);have o1:=Heap.get?_update_self (Obj.mapFields (·.setIfInBounds 0 (rawInt 0))) ho (Obj.isFreed_of_fields (Obj.data_mapFields hd _));refine wpAny_bind (wpAny_setField o1 (Obj.data_mapFields hd _) (by simp) ?_);show wpAny _ _ (newExc (.type "StopIteration") [] >>= _) _ _ _;refine wpAny_bind ?_;simp only[newExc,newTuple];refine wpAny_bind (wpAny_newObj_type ?_ (by size_fits));refine wpAny_bind (m:=firstArgMember _ _) (wpAny_of_eq (a:=Value.none) (by simp only[firstArgMember];rfl) ?_);refine wpAny_newObj_type ?_ (by size_fits);simp only[raiseNew];refine wpAny_bind (wpAny_handled ?_);rw[show A.in1.handled=none from hh];refine wpAny_bind (wpAny_pure (wpAny_throw ?_));refine wpAny_bind (wpAny_isInstance (T:="StopIteration") (b:=true) ⟨_,Heap.get?_push_size _ rfl,rfl⟩ isSubtype_stop ?_);exact wpAny_pure (h _ ((((Heap.SameBut.update ..).trans (Heap.SameBut.update ..)).extBut.push _).push _))
end
end L2
namespace L2
open PySem PyProof.Rows
section
variable {prog:Program}{w:World}{A:Around}{E:Value->Shared->Prop}{s:Shared}{it a:Addr}{zs:List Str}{es:Array (Int×Value)}{ep:Nat}{t:SetTable}
theorem ItAt.kept {h h':Heap}{f:Value}{i n:Nat}(x:ItAt h it a f i n ep)(k:∀ o,h.get? it=some o->h'.get? it=some o):ItAt h' it a f i n ep:=by
 obtain⟨o,ho,r⟩:=x;exact⟨o,k _ ho,r⟩
theorem PlAt.kept {h h':Heap}{p:Addr}{ks:List Nat}(x:PlAt h p ks)(k:∀ o,h.get? p=some o->h'.get? p=some o):PlAt h' p ks:=by
 obtain⟨o,n,ho,r⟩:=x;exact⟨o,n,k _ ho,r⟩
theorem zhC {f:Value}{i n:Nat}{Q:Value->Shared->Prop}(x:ItAt s.heap it a f i n ep)(h:Q (.ref it) s):wpAny (model prog w) A (pyIter (.ref it)) Q E s:=by
 refine wpAny_pyIter_slot x.ty zgE (wpAny_call_entry zgE x.ty zlM ?_ (zmk _));show wpAny _ _ (ret (.ref it)) _ _ s;exact wpAny_pure ⟨_,rfl,"set_iterator",_,x.ty,sl_next.lookup,h⟩
theorem zkw (hh:A.handled=none)(ne:a≠it)(nd:(!byT w&&drw es t)=false) :
  Walks prog w A it [it,a] [it] es.size (fun i v=>((wlk w a ep es).toList.map (·.2))[i]?=some v) (fun i h=>TAt prog w (!byT w) h a zs es ep t/\ItAt h it a (.int (slt w t i) 0) i es.size ep) where
 sub:=fun b m=>List.mem_cons.mpr (.inl (List.mem_singleton.mp m))
 frame:=fun _ _ _ st k=>⟨st.1.moved fun o e=>k a (by simp) o e,st.2.kept fun o e=>k it (by simp) o e⟩
 item:=fun i s Q E hi st h=>by
  have z:=(zcC w a ep es).length_eq;rw[Array.length_toList,Array.length_toList] at z;have e:(wlk w a ep es)[i]?=some (wlk w a ep es)[i]:=Array.getElem?_eq_getElem (by omega);refine zoc st.1 st.2 nd e fun h' x2 sb=>h _ h' s.toks ?_ ⟨st.1.moved fun o q=>(sb.2 a ne).trans q,x2⟩ fun b o m q=>(sb.2 b (fun c=>m (List.mem_singleton.mpr c))).trans q;rw[List.getElem?_map,Array.getElem?_toList,e];rfl
 done:=fun s Q E st h=>zoS hh st.1 st.2 nd fun h' eb=>h h' s.toks fun b o m q=>eb b o (fun c=>m (List.mem_singleton.mpr c)) q
 self:=fun _ _ _ _ st h=>zhC st.2 h
def atK (es:Array (Int×Value))(k:Nat):Value:=((es[k]?).map (·.2)).getD .none
theorem zmi (es:Array (Int×Value)):(List.range es.size).map (atK es)=es.toList.map (·.2):=by
 refine List.ext_getElem (by simp) fun i h1 h2=>?_;have hi:i<es.size:=by simpa using h1
 simp [atK,hi]
theorem zkx {p:Addr}{ks:List Nat}(hh:A.handled=none)(ne:a≠it)(np:p≠it)(hp:ks.Perm (List.range es.size)) :
  Walks prog w A it [it,a,p] [it] ks.length (fun i v=>(ks.map (atK es))[i]?=some v) (fun i h=>TAt prog w (!byT w) h a zs es ep t/\ItAt h it a (.ref p) i es.size ep/\PlAt h p ks) where
 sub:=fun b m=>List.mem_cons.mpr (.inl (List.mem_singleton.mp m))
 frame:=fun _ _ _ st k=>⟨st.1.moved fun o e=>k a (by simp) o e,st.2.1.kept fun o e=>k it (by simp) o e,st.2.2.kept fun o e=>k p (by simp) o e⟩
 item:=fun i s Q E hi st h=>by
  have hk:ks[i]?=some ks[i]:=List.getElem?_eq_getElem hi;have hm:ks[i]<es.size:=List.mem_range.mp (hp.mem_iff.mp (List.getElem_mem hi));have hx:es[ks[i]]?=some es[ks[i]]:=Array.getElem?_eq_getElem hm;refine zod st.1 st.2.1 st.2.2 hk hx fun h' x2 sb=>h _ h' s.toks ?_ ⟨st.1.moved fun o q=>(sb.2 a ne).trans q,x2,st.2.2.kept fun o q=>(sb.2 p np).trans q⟩ fun b o m q=>(sb.2 b (fun c=>m (List.mem_singleton.mpr c))).trans q;rw[List.getElem?_map,hk];simp [atK,hm]
 done:=fun s Q E st h=>zoT hh st.1 st.2.1 st.2.2 fun h' eb=>h h' s.toks fun b o m q=>eb b o (fun c=>m (List.mem_singleton.mpr c)) q
 self:=fun _ _ _ _ st h=>zhC st.2.1 h
theorem TAt.strs {h:Heap}{lb:Bool}(T:TAt prog w lb h a zs es ep t):∀ v∈es.toList.map (·.2),∃ z k,v=.str z k:=fun v m=>by
 obtain⟨e,he,rfl⟩:=List.mem_map.mp m;obtain⟨⟨k,hk,_⟩,_⟩:=T.el e he;obtain⟨_,u,q⟩:=zjh hk;exact⟨k,u,q⟩
theorem TAt.all {h:Heap}{lb:Bool}(T:TAt prog w lb h a zs es ep t){vs:List Value}(p:vs.Perm (es.toList.map (·.2))):(vs.map tx).Perm zs/\∀ v∈vs,∃ z k,v=.str z k:=by
 refine⟨(p.map tx).trans ?_,fun v m=>T.strs v (p.mem_iff.mp m)⟩;rw[List.map_map];exact T.ks
theorem zlw {Q:Value->Shared->Prop}(hh:A.handled=none)(T:TAt prog w (!byT w) s.heap a zs es ep t)
  (h:∀(it:Addr)(fp:List Addr)(vs:List Value)(St:Nat->Heap->Prop)(h':Heap)(dr:Drawn),Walks prog w A it fp [it] vs.length (fun i v=>vs[i]?=some v) St->St 0 h'->(∀ b o,s.heap.get? b=some o->h'.get? b=some o)->s.heap.objs.size<=it->(∀ b∈fp,b=a\/s.heap.objs.size<=b) ->
   (vs.map tx).Perm zs->(∀ v∈vs,∃ z k,v=.str z k)->Q (.ref it) { s with heap:=h',drawn:=dr }):wpAny (model prog w) A (pyIter (.ref a)) Q E s:=by
 obtain⟨oa,ha,hxa,hda⟩:=T.get;have lt:a<s.heap.objs.size:=Heap.lt_size ha;refine wpAny_pyIter_slot T.ty PySem.F.slot_set_iter (wpAny_call_entry PySem.F.slot_set_iter T.ty zlN ?_ (PySem.F.args_set_iter_1 _));unfold Builtin.«frozenset.__iter__»;unfold Builtin.Frozenset.slot0 Builtin.Frozenset.addrOf;refine wpAny_bind (wpAny_bind (wpAny_pure ?_));refine wpAny_pure ?_;unfold Builtin.Frozenset.sizeOf;refine wpAny_bind (wpAny_bind (wpAny_setEntries_of ha hda T.fits (wpAny_pure ?_)));refine wpAny_bind (zju T ?_)
 cases nd:(!byT w&&drw es t) with
 |false=>
  rw[if_neg Bool.false_ne_true];refine wpAny_bind (wpAny_pure ?_);refine wpAny_bind ?_;unfold setEpoch;refine wpAny_bind (wpAny_setState_of ha hda T.fits (wpAny_pure ?_));unfold newFields;refine wpAny_bind (wpAny_newObj_type ?_ (by size_fits))
  have x0:ItAt (s.heap.push { cls:=.type "set_iterator",data:=.fields #[rawInt 0,rawInt 0,.ref a,rawInt es.size,rawInt ep] }) s.heap.objs.size a (.int (slt w t 0) 0) 0 es.size ep:=by
   refine⟨_,Heap.get?_push_size _ rfl,rfl,?_⟩;have q:slt w t 0=0:=by unfold slt;split<;>rfl
   rw[q];rfl
  have T0:=T.moved (h':=s.heap.push { cls:=.type "set_iterator",data:=.fields #[rawInt 0,rawInt 0,.ref a,rawInt es.size,rawInt ep] }) fun o e=>Heap.get?_push_of_some _ e;refine wpAny_pure ⟨_,rfl,"set_iterator",_,x0.ty (s:={ s with heap:=_ }),sl_next.lookup,?_⟩;have pm:((wlk w a ep es).toList.map (·.2)).Perm (es.toList.map (·.2)):=(zcC w a ep es).map _;have al:=T.all pm;have W:=zkw (prog:=prog) (w:=w) (A:=A) (it:=s.heap.objs.size) (a:=a) (zs:=zs) (es:=es) (ep:=ep) (t:=t) hh (Nat.ne_of_lt lt) nd;have len:es.size=((wlk w a ep es).toList.map (·.2)).length:=by rw[pm.length_eq,List.length_map,Array.length_toList]
  rw[len] at W
  exact h s.heap.objs.size _ _ _ _ s.drawn W ⟨T0,by rw[<- len];exact x0⟩ (fun b o e=>Heap.get?_push_of_some _ e) (Nat.le_refl _) (fun b m=>by
   rcases List.mem_cons.mp m with rfl|m
   ·exact .inr (Nat.le_refl _)
   ·exact .inl (List.mem_singleton.mp m)) al.1 al.2
 |true=>
  rw[if_pos rfl];refine wpAny_bind (draw_any es.size (List.range es.size) _ _ (by simp) fun ks dr hp=>?_)
  have few:ks.length<=sizeLine:=by
   rw[hp.length_eq,List.length_range];exact fits_of_scanBound T.few
  refine wpAny_bind (wpAny_newTuple ?_ (by rw[List.length_map];exact few));generalize hH:s.heap.push { cls:=.type "tuple",data:=.seq (ks.map fun(i:Nat)=>rawInt i).toArray }=H1;have k1:∀ b o,s.heap.get? b=some o->H1.get? b=some o:=fun b o e=>by rw[<- hH];exact Heap.get?_push_of_some _ e
  have z1:H1.objs.size=s.heap.objs.size+1:=by rw[<- hH];exact Heap.size_push ..
  have pl:PlAt H1 s.heap.objs.size ks:=⟨_,0,by rw[<- hH];exact Heap.get?_push_size _ rfl,rfl⟩;refine wpAny_bind ?_;unfold setEpoch;refine wpAny_bind (wpAny_setState_of (k1 _ _ ha) hda T.fits (wpAny_pure ?_));unfold newFields;refine wpAny_bind (wpAny_newObj_type ?_ (by size_fits));have x0:ItAt (H1.push { cls:=.type "set_iterator",data:=.fields #[.ref s.heap.objs.size,rawInt 0,.ref a,rawInt es.size,rawInt ep] }) H1.objs.size a (.ref s.heap.objs.size) 0 es.size ep:=⟨_,Heap.get?_push_size _ rfl,rfl,rfl⟩;have T0:=T.moved (h':=H1.push { cls:=.type "set_iterator",data:=.fields #[.ref s.heap.objs.size,rawInt 0,.ref a,rawInt es.size,rawInt ep] }) fun o e=>Heap.get?_push_of_some _ (k1 _ _ e);refine wpAny_pure ⟨_,rfl,"set_iterator",_,x0.ty (s:={ s with heap:=_,drawn:=dr }),sl_next.lookup,?_⟩;have pm:(ks.map (atK es)).Perm (es.toList.map (·.2)):=(hp.map _).trans (by rw[zmi]);have al:=T.all pm;have W:=zkx (prog:=prog) (w:=w) (A:=A) (it:=H1.objs.size) (a:=a) (zs:=zs) (es:=es) (ep:=ep) (t:=t) (p:=s.heap.objs.size) hh (by rw[z1];exact Nat.ne_of_lt (Nat.lt_succ_of_lt lt)) (by rw[z1];exact Nat.ne_of_lt (Nat.lt_succ_self _)) hp;have len:ks.length=(ks.map (atK es)).length:=by rw[List.length_map]
  rw[len] at W
  exact h H1.objs.size _ _ _ _ dr W ⟨T0,x0,pl.kept fun o e=>Heap.get?_push_of_some _ e⟩ (fun b o e=>Heap.get?_push_of_some _ (k1 _ _ e)) (by rw[z1];exact Nat.le_succ _) (fun b m=>by
   rcases List.mem_cons.mp m with rfl|m
   ·exact .inr (by rw[z1];exact Nat.le_succ _)
   rcases List.mem_cons.mp m with rfl|m
   ·exact .inl rfl
   ·exact .inr (Nat.le_of_eq (List.mem_singleton.mp m).symm)) al.1 al.2
end
end L2
set_option maxHeartbeats 4000000
namespace L2
open PySem PyProof.Rows
section
variable {prog:Program}{w:World}{A:Around}{E:Value->Shared->Prop}{s:Shared}
theorem set_of {l:Addr}{items:Array Value}{ys:List Str}{Q:Value->Shared->Prop}(hh:A.handled=none)(hl:s.heap.IsList l items)(hi:StrsAre items.toList ys)(hb:ys.length+1<scanBound)
  (h:∀ h' tk es ep t,TAt prog w (!byT w) h' s.heap.objs.size (ded ys) es ep t->(∀ b o,b<s.heap.objs.size->s.heap.get? b=some o->h'.get? b=some o)->Q (.ref s.heap.objs.size) { s with heap:=h',toks:=tk }) :
  wpAny (model prog w) A (call (.type "set") [.ref l]) Q E s:=by
 obtain⟨c,tl,q0⟩:=PySem.F.called_set.mro;have q1:=PySem.F.called_set.made;have q2:=PySem.F.called_set.sub;refine wpAny_call (codeAny_of_tree ?_);show wpAny _ _ (callAny (.type "set") _) _ _ _;refine wpAny_pure ⟨Code.quiet_builtin _ (by decide +kernel),codeAny_builtin PySem.F.entry_type_call ?_⟩;rw[Around.under_plain (weight_type_call_type "set" [.ref l] []) rfl];have q3:=PySem.F.called_set.notType;have q4:=PySem.F.called_set.canCreate;have q5:=PySem.F.typeCall_set_1 (.ref l)
 repeat (any_goals (first|assumption|wp_step))
 refine codeAny_mono (new_set1 (.ref l) (E:=E) (Q₁:=fun obj s₁=>obj=.ref s.heap.objs.size/\s₁={ s with heap:=s.heap.push (oSet w) }) ⟨rfl,rfl⟩) fun r s₁ hr=>?_
 cases r with
 |error e=>exact hr
 |ok fl=>
  cases fl with
  |ret obj=>
   obtain⟨rfl,rfl⟩:=hr;have g0:(s.heap.push (oSet w)).get? s.heap.objs.size=some (oSet w):=Heap.get?_push_size _ rfl;have ty:Shared.TypeIs { s with heap:=s.heap.push (oSet w) } (.ref s.heap.objs.size) "set":=⟨_,g0,rfl⟩;have q6:=PySem.F.called_set.init.lookup;have q7:=PySem.F.called_set.init.bind (.ref s.heap.objs.size)
   repeat (any_goals (first|assumption|wp_step))
   refine codeAny_mono (codeAny_call_builtin (R:=wants (fun r s₂=>r=.none/\∃ h' tk,s₂={ s with heap:=h',toks:=tk }/\(∃ es ep t,TAt prog w (!byT w) h' s.heap.objs.size (ded ys) es ep t) /\
     (∀ b o,b<s.heap.objs.size->s.heap.get? b=some o->h'.get? b=some o)) E) PySem.F.called_set.init.plain PySem.F.entry_set_init (check_set_init_1 ty ?_)) fun r₂ s₂ hr₂=>?_
   ·obtain⟨ol,g1,cl,nl,dl⟩:=hl;obtain⟨ocls,odict,odata,oslots⟩:=ol;simp only at cl dl;subst cl;subst dl;have g2:(s.heap.push (oSet w)).get? l=some { cls:=.type "list",dict:=odict,data:=.seq items nl,slots:=oslots }:=Heap.get?_push_of_some _ g1;have q8:=PySem.F.sub_list_set;have q9:=PySem.F.sub_list_frozenset;have q10:(Value.type "list"==Value.type "dict")=false:=by decide
    have l1:(s.heap.push (oSet w)).IsList l items:=⟨_,g2,rfl,nl,rfl⟩;unfold Builtin.«set.__init__» noKeywords;unfold Builtin.Frozenset.updateFrom;generalize hPI:pyIter=PI;wp_walk;subst hPI;refine wpAny_pyIter_list l1 ?_;refine wpAny_bind (wpAny_runValue ?_);have lt:l<s.heap.objs.size:=Heap.lt_size g1;have hh3:A.in1.in1.in1.handled=none:=by simp [hh]
    have sz:(s.heap.push (oSet w)).objs.size=s.heap.objs.size+1:=Heap.size_push ..;have ne:l≠(s.heap.push (oSet w)).objs.size:=by rw[sz];exact Nat.ne_of_lt (Nat.lt_succ_of_lt lt)
    have nf:s.heap.objs.size∉[(s.heap.push (oSet w)).objs.size,l]:=by
     rw[sz];simp only[List.mem_cons,List.mem_singleton,List.not_mem_nil,or_false,not_or];exact⟨Nat.ne_of_lt (Nat.lt_succ_self _),Nat.ne_of_gt lt⟩
    have hn:items.size=ys.length:=by
     have z:=StrsAre.length hi;rw[Array.length_toList] at z
     first|exact z|exact z.symm
    refine zgv (lb:=!byT w) ((Walks.list hh3 _ l ne items).toS) s.heap.objs.size nf ys hn.symm (fun i v e=>zgz hi i v (by rw[Array.getElem?_toList];exact e)) (by rw[hn];exact hb) (items.size-0) 0 _ (by omega) (Nat.zero_le _)
     ⟨⟨_,Heap.get?_push_size _ rfl,rfl,rfl⟩,(l1.push _)⟩ ?_ ?_
    ·exact⟨#[],0,.fresh 0 0 (!byT w),⟨_,Heap.get?_push_of_some _ g0,⟨rfl,rfl,rfl⟩,rfl⟩,fun e he=>by simp at he,by decide,by rfl,rfl,.inl rfl,.refl _⟩
    ·intro s' mv T;obtain⟨h',g',d',tk',os'⟩:=s';have eg:g'=s.gens:=mv.gens;have ed:d'=s.drawn:=mv.drawn;have eo:os'=s.os:=mv.os;subst eg ed eo;show wpAny _ _ _ _ _ _;refine wpAny_pure ?_;show wpAny _ _ (ret Value.none) _ _ _;refine wpAny_pure ⟨rfl,h',tk',rfl,T,fun b o hb e=>?_⟩;refine mv.heap b o ?_ (Heap.get?_push_of_some _ (Heap.get?_push_of_some _ e));simp only[List.mem_cons,List.mem_singleton,List.not_mem_nil,or_false,not_or];exact⟨Nat.ne_of_lt hb,by rw[sz];exact Nat.ne_of_lt (Nat.lt_succ_of_lt hb)⟩
   ·cases r₂ with
    |error e=>exact hr₂
    |ok fl₂=>
     cases fl₂ with
     |ret r=>
      obtain⟨rfl,h',tk,rfl,⟨es,ep,t,T⟩,k⟩:=hr₂
      repeat (any_goals (first|assumption|wp_step))
      exact h h' tk es ep t T k
     |_=>exact hr₂.elim
  |_=>exact hr.elim
end
end L2
set_option maxHeartbeats 400000
namespace L2
open PySem PyProof.Rows
section
variable {prog:Program}{w:World}{A:Around}{E:Value->Shared->Prop}{s:Shared}{a:Addr}{zs:List Str}{es:Array (Int×Value)}{ep:Nat}{t:SetTable}
theorem zji {Q:Bool->Shared->Prop}(ty:s.TypeIs (.ref a) "set")(h:Q false s):wpAny (model prog w) A (Builtin.List.listLengthHint (.ref a)) Q E s:=by
 unfold Builtin.List.listLengthHint;refine wpAny_bind (wpAny_specialOf ty PySem.F.slot_set_len.lookup ?_);generalize hid:("set.__len__":String)=idn
 wp_delta
 rw[show splitId idn=some ("set","__len__") from by subst hid;decide +kernel];subst hid;refine wpAny_bind (wpAny_isInstance (T:="set") (b:=true) ty PySem.sub_set_self ?_);refine wpAny_ite_split (fun c=>absurd c (by decide)) (fun _=>?_);refine wpAny_ite_split (fun _=>?_) (fun c=>absurd (by decide +kernel) c);exact wpAny_bind (wpAny_typeOf ty (wpAny_pure h))
theorem zlI {R:Result->Shared->Prop}(hh:A.handled=none)(T:TAt prog w (!byT w) s.heap a zs es ep t)(S:Addr)(hSa:S≠a)(res:Value)(c₀:Nat)(hS:s.heap.get? S=some { cls:=.type "list",data:=.seq #[] c₀ })(few:zs.length<=1000)
  (fin:∀ h' tk dr vs c',(∀ b o,b≠S->s.heap.get? b=some o->h'.get? b=some o)->h'.get? S=some { cls:=.type "list",dict:=none,data:=.seq (vs:List Value).toArray c',slots:=#[] }->(vs.map tx).Perm zs->(∀ v∈vs,∃ z k,v=.str z k) ->
   R (.ok (.ret res)) { s with heap:=h',toks:=tk,drawn:=dr }) :
  wpAny (model prog w) A.in1 (Builtin.List.listExtendWith (.ref S) (.ref a) res)
   (fun f s'=>match f with|.done f=>R (.ok f) s'|.again c'=>c'.quiet=true/\codeAny (model prog w) A c' R s') (fun e s'=>R (.error e) s') s:=by
 have ltS:S<s.heap.objs.size:=Heap.lt_size hS;unfold Builtin.List.listExtendWith;refine wpAny_bind (wpAny_typeOf (T:="set") T.ty ?_);have h1:Builtin.List.listSameRef (.ref S) (.ref a)=false:=by simp [Builtin.List.listSameRef,hSa]
 have h2:(Value.type "set"==Value.type "list")=false:=by decide
 have h3:(Value.type "set"==Value.type "tuple")=false:=by decide
 simp only[h1,h2,h3,Bool.or_false,Bool.false_eq_true,if_false];refine wpAny_bind (zlw hh T fun it fp vs St h' dr W st k1 li hf pm al=>?_)
 have hn:vs.length<=sizeLine:=by
  have z:=pm.length_eq;rw[List.length_map] at z;exact Nat.le_of_lt (zas (by omega))
 have nf:S∉fp:=fun m=>(hf S m).elim hSa fun z=>absurd ltS (Nat.not_lt.mpr z);have nw:S≠it:=fun e=>absurd ltS (Nat.not_lt.mpr (e▸li))
 have loop:∀(h:Heap)(c₁ tk:Nat),St 0 h->(∀ b o,b≠S->s.heap.get? b=some o->h.get? b=some o)->h.get? S=some { cls:=.type "list",data:=.seq #[] c₁ } ->
   codeAny (model prog w) A (.builtin "list.extend.loop" ⟨[.ref S,.ref it,res],[]⟩) R { s with heap:=h,toks:=tk,drawn:=dr }:=by
  intro h c₁ tk st' k hS₁;refine codeAny_extend_loopS W.toS hn S nf res vs.length 0 _ #[] c₁ rfl (Nat.zero_le _) st' hS₁ (ItemsOf.nil _) fun s' acc c' mv hS' hacc=>?_;rw[Moved.eq_with mv]
  have ea:acc=vs.toArray:=by
   refine Array.ext (by rw[hacc.1];simp) fun i h1 h2=>?_;have q:vs[i]?=some acc[i]:=hacc.2 i acc[i] (Array.getElem?_eq_getElem h1);have h2':i<vs.length:=by simpa using h2
   rw[List.getElem?_eq_getElem h2'] at q;simpa using (Option.some.inj q).symm
  subst ea;refine fin s'.heap s'.toks dr vs c' (fun b o hb e=>mv.heap b o (fun m=>?_) (k b o hb e)) hS' pm al;rcases List.mem_cons.mp m with q|m
  ·exact hb q
  ·have q:=List.mem_singleton.mp m;subst q;exact absurd (Heap.lt_size e) (Nat.not_lt.mpr li)
 have hS₁:=k1 _ _ hS;refine wpAny_bind (wpAny_holding (zji (T.moved (h':=h') fun o e=>k1 _ _ e).ty ?_));refine wpAny_ite_split (fun _=>?_) (fun _=>wpAny_pure ⟨plainId_quiet PySem.F.plain_extend_loop _,loop _ c₀ _ st (fun b o _ e=>k1 b o e) hS₁⟩);refine wpAny_bind (wpAny_rule ?_);refine wpAny_bind ?_;show wpAny _ _ (updateSeq S (·.push .none) >>= fun _=>updateSeq S (·.pop)) _ _ _;refine wpAny_bind (wpAny_updateSeq hS₁ rfl ?_);have hS₂:=Heap.get?_update_self (Obj.mapSeq (·.push Value.none)) hS₁ rfl;refine wpAny_updateSeq (hz:=by seq_fits) hS₂ rfl ?_;have hS₃:=Heap.get?_update_self (Obj.mapSeq (·.pop)) hS₂ rfl
 have oth:∀ b o,b≠S->h'.get? b=some o->((h'.update S (Obj.mapSeq (·.push Value.none))).update S (Obj.mapSeq (·.pop))).get? b=some o:=fun b o hb e=>
  (Heap.get?_update_other _ _ (Ne.symm hb)).trans ((Heap.get?_update_other _ _ (Ne.symm hb)).trans e)
 exact wpAny_pure ⟨plainId_quiet PySem.F.plain_extend_loop _,loop _ _ _ (W.frame 0 _ _ st fun b m o e=>oth b o (fun q=>nf (q▸m)) e) (fun b o hb e=>oth b o hb (k1 _ _ e)) hS₃⟩
theorem zjB {R:List Value->Shared->Prop}(hh:A.handled=none)(T:TAt prog w (!byT w) s.heap a zs es ep t)(few:zs.length<=1000)
  (h:∀ h' tk dr vs,(∀ b o,s.heap.get? b=some o->h'.get? b=some o)->s.heap.objs.size<h'.objs.size->(vs.map tx).Perm zs->(∀ v∈vs,∃ z k,v=.str z k)->R vs { s with heap:=h',toks:=tk,drawn:=dr }):wpAny (model prog w) A (collect (.ref a)) R E s:=by
 obtain⟨oa,ha,hxa,hda⟩:=T.get;have lt:a<s.heap.objs.size:=Heap.lt_size ha;unfold collect;refine wpAny_bind (wpAny_runValue (codeAny_builtin PyProof.Rows.entry_proto_collect' ?_));rw[Around.under_plainId PySem.F.plain_proto_collect _];show wpAny _ A.in1 (newList [] >>= fun l=>again (.builtin "list.__iadd__" ⟨[l,.ref a],[]⟩)) _ _ s;refine wpAny_bind (wpAny_newObj_type ?_);refine wpAny_pure ⟨plainId_quiet PySem.F.plain_list_iadd _,codeAny_builtin PyProof.Rows.entry_list_iadd' ?_⟩;rw[Around.under_plainId PySem.F.plain_list_iadd _];have g0:(s.heap.push { cls:=.type "list",data:=.seq ([]:List Value).toArray }).get? s.heap.objs.size=some { cls:=.type "list",data:=.seq #[] }:=Heap.get?_push_size _ rfl;show wpAny _ A.in1 (Builtin.List.listExtendWith (.ref s.heap.objs.size) (.ref a) (.ref s.heap.objs.size)) _ _ _;have T0:=T.moved (h':=s.heap.push { cls:=.type "list",data:=.seq ([]:List Value).toArray }) fun o e=>Heap.get?_push_of_some _ e
 have key:=zlI (A:=A) (s:={ s with heap:=s.heap.push { cls:=.type "list",data:=.seq ([]:List Value).toArray } })
  (R:=fun(q:Result)(s':Shared)=>∃(h':Heap)(tk:Nat)(dr:Drawn)(vs:List Value)(c':Nat),q=.ok (.ret (.ref s.heap.objs.size))/\s'={ s with heap:=h',toks:=tk,drawn:=dr } /\
   (∀ b o,s.heap.get? b=some o->h'.get? b=some o)/\h'.get? s.heap.objs.size=some { cls:=.type "list",dict:=none,data:=.seq vs.toArray c',slots:=#[] }/\(vs.map tx).Perm zs/\(∀ v∈vs,∃ z k,v=.str z k))
  hh T0 s.heap.objs.size (Nat.ne_of_gt lt) (.ref s.heap.objs.size) 0 g0 few
  (fun h' tk dr vs c' k hS' pm al=>⟨h',tk,dr,vs,c',rfl,rfl,fun b o e=>k b o (Nat.ne_of_lt (Heap.lt_size e)) (Heap.get?_push_of_some _ e),hS',pm,al⟩)
 refine wpAny_mono key (fun f s' x=>?_) fun e s' x=>?_
 ·cases f with
  |done f=>
   obtain⟨h',tk,dr,vs,c',e,rfl,k,hS',pm,al⟩:=x;cases e;show wpAny _ A (load s.heap.objs.size >>= _) _ _ _;refine wpAny_bind (wpAny_load hS' ?_);have q:=h h' tk dr vs k (Heap.lt_size hS') pm al;exact wpAny_pure (by simpa using q)
  |again c₁=>
   refine⟨x.1,codeAny_mono x.2 fun q s₂ y=>?_⟩;obtain⟨h',tk,dr,vs,c',rfl,rfl,k,hS',pm,al⟩:=y;show wpAny _ A (load s.heap.objs.size >>= _) _ _ _;refine wpAny_bind (wpAny_load hS' ?_);have q:=h h' tk dr vs k (Heap.lt_size hS') pm al;exact wpAny_pure (by simpa using q)
 ·obtain⟨_,_,_,_,_,e',_⟩:=x;cases e'
end
end L2
namespace L2
open PySem PySem.Spec PyProof.Rows
def leS (a b:Str):Prop:=¬ b.cps.toList<a.cps.toList
theorem zjd {a b:Str}(h1:leS a b)(h2:leS b a):a=b:=by
 have e:a.cps.toList=b.cps.toList:=List.le_antisymm (List.not_lt.mp h1) (List.not_lt.mp h2);obtain⟨x⟩:=a;obtain⟨y⟩:=b
 have:x=y:=by
  cases x;cases y;exact congrArg _ e
 rw[this]
theorem zel {a b c:Str}(h1:leS a b)(h2:leS b c):leS a c:=List.not_lt.mpr (List.le_trans (List.not_lt.mp h1) (List.not_lt.mp h2))
theorem zdu:∀(p:Str)(l:List Str),risingS p l=true->(p::l).Pairwise leS
 |p,[],_=>List.pairwise_singleton _ _
 |p,x::r,h=>by
  have h':(!ltCps x.cps.toList p.cps.toList&&risingS x r)=true:=h;rw[Bool.and_eq_true] at h';have z:=zdu x r h'.2
  have px:leS p x:=by
   have q:=h'.1;rw[ltCps_eq] at q;simpa [leS] using q
  refine List.pairwise_cons.mpr ⟨fun y m=>?_,z⟩;rcases List.mem_cons.mp m with rfl|m
  ·exact px
  ·exact zel px (List.rel_of_pairwise_cons z m)
theorem zbY:∀{l:List Str},sortedS l=true->l.Pairwise leS
 |[],_=>List.Pairwise.nil
 |x::r,h=>zdu x r h
theorem zdr:∀{l m:List Str},l.Pairwise leS->m.Pairwise leS->l.Perm m->l=m
 |[],m,_,_,p=>p.nil_eq
 |x::r,[],_,_,p=>absurd p.length_eq (by simp)
 |x::r,y::q,h1,h2,p=>by
  have hx:x∈y::q:=p.mem_iff.mp List.mem_cons_self;have hy:y∈x::r:=p.mem_iff.mpr List.mem_cons_self
  have e:x=y:=by
   rcases List.mem_cons.mp hx with e|hx
   ·exact e
   rcases List.mem_cons.mp hy with e|hy
   ·exact e.symm
   exact zjd (List.rel_of_pairwise_cons h1 hy) (List.rel_of_pairwise_cons h2 hx)
  subst e;rw[zdr (List.pairwise_cons.mp h1).2 (List.pairwise_cons.mp h2).2 p.cons_inv]
def Srt (zs ss:List Str):Prop:=ss.Perm zs/\ss.Pairwise leS
theorem Srt.one {zs ys ss rs:List Str}(h1:Srt zs ss)(h2:Srt ys rs)(p:zs.Perm ys):ss=rs:=zdr h1.2 h2.2 ((h1.1.trans p).trans h2.1.symm)
def SetP (prog:Program)(w:World)(p:Addr)(zs:List Str):Heap->Prop:=fun h=>∃ es ep t,TAt prog w (!byT w) h p zs es ep t
theorem zcD:∀{us:List Value}{ys:List Str},StrsAre us ys->Vals (ys.map V.str) us
 |_,_,.nil=>.nil
 |_,_,.cons z t r=>.cons ⟨t,rfl⟩ (zcD r)
theorem zgy:∀(vs:List Value),(∀ v∈vs,∃ z k,v=.str z k)->StrsAre vs (vs.map tx)
 |[],_=>.nil
 |v::r,h=>by
  obtain⟨z,k,rfl⟩:=h v List.mem_cons_self;exact .cons z k (zgy r fun u m=>h u (List.mem_cons_of_mem _ m))
section
variable {X:Cx}
theorem Inv.redrawn {pins:List (Addr×Obj)}{σ:St}{H:Hp}{s:Shared}(I:Inv X pins σ H s)(dr:Drawn):Inv X pins σ H { s with drawn:=dr }:=I.call' (ch:=[]) rfl Un.refl I.hok I.bare (fun b hb=>nomatch hb)
theorem zjC (hc:X.calm=true):CallR X (.type "set") (fun xs H Q=>∃ p ys,xs=[.ref p]/\SqL X.K H p (ys.map V.str)/\ys.length<=1000/\∀ l,H l=none->Q (.ref l) (upd H l (.ext (SetP X.prog X.w l (ded ys))))):=by
 intro pins s σ H xs us Q I r h;obtain⟨p,ys,rfl,hl,hz,q⟩:=h;obtain⟨u,rfl,ru⟩:=zbk r;cases ru;obtain⟨its,rv,pl,_⟩:=I.list hl;refine set_of (I.ok.hd hc) pl.isList (ys:=ys) (by simpa using zbX rv) (by unfold scanBound;omega) fun h' tk es ep t T k=>?_;obtain⟨o,ho,_⟩:=T.get;exact⟨.ref _,_,I.laid (o:=.ext (SetP X.prog X.w s.heap.objs.size (ded ys))) (t':=tk) (fun b u e=>k b u (Heap.lt_size e) e) (Nat.le_refl _) ⟨⟨es,ep,t,T⟩,⟨o,ho⟩,fun h1 h2 ⟨es,ep,t,T⟩ kk=>⟨es,ep,t,T.moved kk⟩⟩,rfl,q _ I.fresh⟩
theorem zdg (hc:X.calm=true):CallR X (.builtin "sorted") (fun xs H Q=>∃ p zs,xs=[.ref p]/\H p=some (.ext (SetP X.prog X.w p zs))/\zs.length<64/\∀ l ss,H l=none->Srt zs ss->Q (.ref l) (upd H l (.lst (ss.map V.str)))):=by
 intro pins s σ H xs us Q I r h;obtain⟨p,zs,rfl,hp,hz,q⟩:=h;obtain⟨u,rfl,ru⟩:=zbk r;cases ru;obtain⟨⟨es,ep,t,T⟩,_,_⟩:=I.hok p _ hp;refine Calls.call_function_entry kind_sorted plain_sorted entry_sorted (args_sorted1 _) ?_;unfold Builtin.«sorted»;refine wpAny_bind (m:=checkCount "sorted" 1 1 _) (wpAny_pure ?_);refine wpAny_bind (zjB (A:=X.A.in1) (I.ok.hd hc) T (by omega) fun h' tk dr vs k lt pm al=>?_)
 have len:vs.length<64:=by
  have z:=pm.length_eq;rw[List.length_map] at z;omega
 refine wpAny_bind (wpAny_newList ?_ (Nat.le_of_lt (zas (by omega))));have hS:=zgy vs al;have oL:(h'.push { cls:=.type "list",data:=.seq vs.toArray }).get? h'.objs.size=some (seqObj "list" vs.toArray 0):=Heap.get?_push_size _ rfl;refine wpAny_bind (wpAny_holding (wpAny_call_entry slot_list_sort ⟨_,oL,rfl⟩ entry_list_sort (list_sort_treeK strKind_oneLt oL hS.keysOf (fun v₁ v₂ rest e=>keyKind_strs (by rw[<- e];exact hS)) len fun st' a1 a2=>⟨_,rfl,?_⟩) (args_list_sort _)));obtain⟨ss,b1,b2,b3⟩:=sorted_out_str hS a1 a2;obtain⟨ex,he⟩:=sortedHeap_at (out:=(arrOf st').map (·.2)) oL
 have kp:∀ b o,s.heap.get? b=some o->(sortedHeap (h'.push { cls:=.type "list",data:=.seq vs.toArray }) h'.objs.size vs ((arrOf st').map (·.2))).get? b=some o:=fun b o e=>by
  have e1:=k b o e;have l1:=Heap.lt_size e1;rw[sortedHeap_old (Nat.ne_of_lt l1) (by rw[size_push'];exact Nat.lt_succ_of_lt l1)];exact Heap.get?_push_of_some _ e1
 have le:s.heap.objs.size<=h'.objs.size:=Nat.le_of_lt lt
 have I1:=(I.redrawn dr).laid (a:=h'.objs.size) (o:=.lst (ss.map V.str)) (t':=tk) kp le ⟨by rw[List.length_map,b2.length_eq,List.length_map];exact Nat.le_of_lt (zas (by omega)),((arrOf st').map (·.2)).toList,ex,zcD b1,by
  rw[Array.toArray_toList]
  exact he⟩
 exact wpAny_pure ⟨_,rfl,.ref h'.objs.size,_,I1,rfl,q _ ss (I.hok.fresh le) ⟨b2.trans pm,zbY b3⟩⟩
theorem zcA:CallR X (.builtin "sorted") (fun xs H Q=>∃ p ys,xs=[.ref p]/\SqL X.K H p (ys.map V.str)/\ys.length<64/\∀ l ss,H l=none->Srt ys ss->Q (.ref l) (upd H l (.lst (ss.map V.str)))):=by
 intro pins s σ H xs us Q I r h;obtain⟨p,ys,rfl,hl,hz,q⟩:=h;obtain⟨u,rfl,ru⟩:=zbk r;cases ru;obtain⟨its,rv,pl,_⟩:=I.list hl;have hS:StrsAre its ys:=zbX rv;have l0:=rv.length;rw[List.length_map] at l0;refine sorted_strs pl.isList hS (by omega) fun out ss b1 b2 b3=>?_;obtain⟨ex,he⟩:=sortedAll_at s.heap its out;have I1:=I.laid (a:=s.heap.objs.size+1) (o:=.lst (ss.map V.str)) (t':=s.toks) (h':=sortedAll s.heap its out) (fun b o e=>sortedAll_old e) (Nat.le_succ _) ⟨by rw[List.length_map,b2.length_eq];exact Nat.le_of_lt (zas (by omega)),_,ex,zcD b1,by simpa [seqObj] using he⟩;exact⟨.ref _,_,I1,rfl,q _ ss (I.hok.fresh (Nat.le_succ _)) ⟨b2,zbY b3⟩⟩
end
end L2
set_option maxHeartbeats 4000000
namespace L2
open PySem PySem.Spec PyProof.Rows
theorem zfp {J:It}{g:TG}{tI:TT}{te:TE}{acc:Addr}{Q:VK}{σ:St}{H:Hp}(n:Nat)(Pv:Nat->St->Hp->Prop)(h0:Pv 0 σ H)(stop:∀ σ H,Pv n σ H->J.stop n H/\Q (.ref acc) H)
  (go:∀ i σ H,i<n->Pv i σ H->J.go i H/\∀ x H2,J.yld i H x H2->g x σ H2 fun σ3 H3=>tI σ3 H3 fun b H4=>if b=true then te σ3 H4 fun y H5=>∃ ys,H5 acc=some (.lst ys)/\ys.length<sizeLine/\Pv (i+1) σ3 (upd H5 acc (.lst (ys++[y]))) else Pv (i+1) σ3 H4) :
  bComp J g tI te acc Q σ H:=by
 refine⟨fun i m σ H=>m=n-i/\i<=n/\Pv i σ H,⟨n,by simp,Nat.zero_le _,h0⟩,?_⟩;rintro i m σ H ⟨rfl,hi,p⟩;by_cases hlt:i<n
 ·obtain⟨g1,g2⟩:=go i σ H hlt p;exact .inr ⟨g1,Pv (i+1),fun σ' H' p'=>⟨n-(i+1),by omega,rfl,hlt,p'⟩,fun x H2 y=>g2 x H2 y⟩
 ·have e:i=n:=by omega
  subst e;exact .inl (stop σ H p)
section
variable {X:Cx}{k:Nat}{f:Addr}{fd:FuncData}{ps:List Str}{sp:Sp}{CX:CXT}{E:XK}{x:Str}{p pos:Pos}{e:Expr}{es:List Expr}{t:TA}{i:Nat}
end
section
variable {X:Cx}
end
end L2
set_option maxHeartbeats 1000000
namespace L2
open PySem PySem.Spec PyProof.Rows
theorem zgM (n:Nat):sliceRange ((n:Int)-1) (-1) (-1)=(List.range n).map fun i=>n-1-i:=by
 unfold sliceRange;rw[if_neg (by decide)]
 have e:(if ((n:Int)-1) > -1 then ((n:Int)-1 - -1 - -1-1) / - -1 else 0).toNat=n:=by
  rw[show(- -1:Int)=1 from rfl,Int.ediv_one];by_cases h:((n:Int)-1) > -1
  ·rw[if_pos h];omega
  ·rw[if_neg h];omega
 simp only[e];refine List.map_congr_left fun i hi=>?_;have:=List.mem_range.mp hi;omega
theorem ziK (its:List Value):slicePick its.toArray none none (some (-1))=its.reverse.toArray:=by
 unfold slicePick;have b:sliceBounds none none (some (-1)) its.toArray.size=((its.length:Int)-1,-1,-1):=rfl;rw[b];show((sliceRange ((its.length:Int)-1) (-1) (-1)).filterMap (its.toArray[·]?)).toArray=_;rw[zgM]
 congr 1
 refine List.ext_getElem? fun i=>?_;rw[List.filterMap_map]
 have all:∀(l:List Nat),(∀ j∈l,j<its.length)->l.filterMap ((fun x=>its.toArray[x]?)∘fun i=>its.length-1-i)=l.map fun i=>its.getD (its.length-1-i) .none:=by
  intro l
  induction l with
  |nil=>intro _;rfl
  |cons j r ih=>
   intro h;have hj:=h j List.mem_cons_self
   have e:((fun x=>its.toArray[x]?)∘fun i=>its.length-1-i) j=some (its.getD (its.length-1-j) .none):=by
    show its.toArray[its.length-1-j]?=_;rw[List.getElem?_toArray,List.getElem?_eq_getElem (by omega)];simp [List.getD,List.getElem?_eq_getElem (show its.length-1-j<its.length by omega)]
   rw[List.filterMap_cons,e,List.map_cons,ih fun k m=>h k (List.mem_cons_of_mem _ m)]
 rw[all _ fun j m=>List.mem_range.mp m,List.getElem?_map];by_cases hi:i<its.length
 ·rw[List.getElem?_range hi,List.getElem?_reverse hi,Option.map_some];simp [List.getD,List.getElem?_eq_getElem (show its.length-1-i<its.length by omega)]
 ·rw[List.getElem?_eq_none (by simpa using hi),List.getElem?_eq_none (by simpa using hi)];rfl
section
variable {X:Cx}{e:Expr}{te:TE}{pos p2 p3 p4:Pos}{j:Nat}
theorem zns {K:Frag}(hK:X.K=K)(he:PE X e te):PE X (.Subscript e (.Slice none none (some (.UnaryOp .USub (.Constant (.int 1) j p3) p4)) p2) pos) (fun σ H Q=>te σ H fun x H1=>∃ a xs,x=.ref a/\SqL K H1 a xs/\∀ p,H1 p=none->Q (.ref p) (upd H1 p (.lst xs.reverse))):=by
 subst hK;intro pins s σ H Q I h;refine Subscript_ (thn (he pins s σ H _ I h) fun v s1 ⟨x,H1,I1,r1,q1⟩=>?_);obtain⟨a,xs,rfl,hx,q⟩:=q1;cases r1;refine wpAny_Slice ?_;rw[evalPart_none];refine wpAny_pure (wpAny_pure ?_);rw[evalPart_some];refine thn (znq (X:=X) zjM (zaq (i:=1)) pins s1 σ H1 (fun u H2=>u=.int (-1)/\H2=H1) I1 ⟨1,rfl,rfl,rfl⟩) fun u s2 ⟨x2,H2,I2,r2,e1,e2⟩=>?_;subst e1 e2;obtain⟨t,rfl⟩:=r2;obtain⟨its,r,ht,hz⟩:=I2.list hx;have hlen:=r.length;have k:∀ b o,s2.heap.get? b=some o->(s2.heap.push { cls:=.type "slice",data:=.fields #[.none,.none,.int (-1) t] }).get? b=some o:=fun b o e=>Heap.get?_push_of_some _ e;have I3:Inv X pins σ H2 { s2 with heap:=s2.heap.push { cls:=.type "slice",data:=.fields #[.none,.none,.int (-1) t] } }:=I2.kept (t':=s2.toks) k;have ht3:(s2.heap.push { cls:=.type "slice",data:=.fields #[.none,.none,.int (-1) t] }).IsList a its.toArray:=ht.isList.push _
 have hg:wpAny (model X.prog X.w) X.A (getItem (.ref a) (.ref s2.heap.objs.size)) (EP X pins σ Q) X.xe { s2 with heap:=s2.heap.push { cls:=.type "slice",data:=.fields #[.none,.none,.int (-1) t] } }:=by
  refine wpAny_getItem_list_slice ht3 (Heap.IsSliceOf.new ..) .none .none (.int (-1) t) (by simp) ?_ (by rw[List.size_toArray];omega);rw[ziK];refine⟨.ref _,_,I3.laid (t':=s2.toks) (o:=.lst xs.reverse) (fun b ob q=>Heap.get?_push_of_some _ q) (Nat.le_refl _) ?_,rfl,q _ (I3.hok.fresh (Nat.le_refl _))⟩;exact⟨by rw[List.length_reverse];exact hz,its.reverse,0,r.reverse,Heap.get?_push_size _ rfl⟩
 show wpAny (model X.prog X.w) X.A (subscriptTail e (.Slice none none (some (.UnaryOp .USub (.Constant (.int 1) j p3) p4)) p2) (.ref a) (.ref s2.heap.objs.size)) (EP X pins σ Q) X.xe _;exact tail_any (ops:=[.ref a,.ref s2.heap.objs.size]) (ht3.typeIs (s:={ s2 with heap:=_ })) slot_list_getitem.lookup hg (by with_unfolding_all rfl)
end
end L2
set_option maxHeartbeats 4000000
namespace L2
open PySem PyProof.Rows
section
variable {prog:Program}{w:World}{A:Around}{E:Value->Shared->Prop}{s:Shared}
end
end L2
namespace L2
open PySem PySem.Spec PyProof.Rows
inductive Rl {α:Type}(R:α->V->Prop):List α->List V->Prop where
 |nil:Rl R [] []
 |cons {a:α}{v:V}{as:List α}{vs:List V}:R a v->Rl R as vs->Rl R (a::as) (v::vs)
section
variable {α:Type}{R S:α->V->Prop}
theorem Rl.len {as:List α}{vs:List V}(h:Rl R as vs):as.length=vs.length:=by
 induction h with
 |nil=>rfl
 |cons _ _ ih=>simp [ih]
end
structure Co where
 n:Str
 k:Bool
 m:Bool
def kd (t:Bool):Str:=if t then "text" else "number"
def KeyOk (cs:List Co)(key:List Str):Prop:=key≠[]/\key.length<=60/\key.Nodup/\∀ z∈key,∃ c∈cs,c.n=z/\c.m=false
section
variable {X:Cx}
end
end L2
set_option maxHeartbeats 2000000
namespace L2
open PySem PyProof.Rows
theorem zhz:typeLookup (.type "list") "keys"=pure none:=am_miss_of_fast (by kernel_rfl)
section
variable {prog:Program}{w:World}{A:Around}{E:Value->Shared->Prop}{s:Shared}
theorem zlh {a:Addr}{xs:Array Value}{k:Nat}{sl:Array (Option Value)}{Q:Option Value->Shared->Prop}(hx:s.heap.get? a=some { cls:=.type "list",dict:=none,data:=.seq xs k,slots:=sl })(hA:A.handled=none)
  (h:∀ h' tk,(∀ b o,s.heap.get? b=some o->h'.get? b=some o)->Q none { s with heap:=h',toks:=tk }):wpAny (model prog w) A (getAttr? (.ref a) "keys") Q E s:=by
 obtain⟨hp,gs,dr,tk,os⟩:=s;have hT:∀ tk',(⟨hp,gs,dr,tk',os⟩:Shared).TypeIs (.ref a) "list":=fun _=>⟨_,hx,rfl⟩;have f1:=sub_AttributeError;have f3:=PySem.F.slot_list_getattribute.lookup;have f4:=PySem.F.slot_list_getattribute.bind (.ref a);have f5:=am_list_getattr_none;unfold getAttr? getAttrBy? getAttrBy
 repeat (any_goals (first|assumption|exact hT _|((with_reducible show wpAny _ _ (call (Value.builtin "list.__getattribute__") _ _) _ _ _);refine call_meets PySem.F.slot_list_getattribute (hT _) am_entry_list_getattribute (PySem.F.args_list_getattribute_2 _ _) (meets_getattribute_miss_list a xs k sl "keys" _ zhz (by decide +kernel)) ⟨hx,hA,fun h' tk' e hx'=>?_⟩)|wp_step))
 obtain⟨t',u',he⟩:=hx'.there;show wpAny _ _ (getattributeRaised _ _ _ _ _ _ _) _ _ _;unfold getattributeRaised
 repeat (any_goals (first|assumption|wp_step))
 exact h h' tk' hx'.of.keeps
end
theorem zoK:entryFor table "dict.update.loop"=some Builtin.«dict.update.loop»:=entryFor_of_tree (by kernel_rfl)
theorem ziR:plainId "dict.update.loop"=true:=by decide +kernel
def putAll (kvs:List (Key×Value)):List (Key×Value):=kvs.foldl (fun acc kv=>stored acc kv.1 kv.2) []
theorem zfQ (kvs:List (Key×Value))(k:Key)(v:Value):(stored kvs k v).length<=kvs.length+1:=by
 unfold stored
 split<;>simp
section
variable {prog:Program}{w:World}{A:Around}{R:Result->Shared->Prop}{I:Addr}{fp wr:List Addr}{G:Array GenState->Array GenState->Prop}{n:Nat}{P:Nat->Value->Prop}{St:Nat->Shared->Prop}
theorem zoX (W:WalksS prog w A.in1 I fp wr G n P St)(D:Addr)(hDf:D∉fp)(h0:Heap)(kvs:List (Key×Value))(res:Value)(few:n<=1000)
  (hv:∀ i v,P i v->∃ p o m key x k,v=.ref p/\p∉D::wr/\h0.get? p=some o/\o.cls=.type "tuple"/\o.data=.seq #[key,x] m/\kvs[i]?=some (k,x)/\(mixKind prog w).is k key=true)(hn:kvs.length=n) :
  ∀(c i:Nat)(s:Shared),n-i=c->i<=n->St i s->s.heap.DictOf (mixKind prog w) D (putAll (kvs.take i))->(∀ b o,b∉D::wr->h0.get? b=some o->s.heap.get? b=some o) ->
   (∀ s',Moved (D::wr) G s s'->s'.heap.DictOf (mixKind prog w) D (putAll kvs)->R (.ok (.ret res)) s')->codeAny (model prog w) A (.builtin "dict.update.loop" ⟨[.ref D,.ref I,rawInt i,res],[]⟩) R s:=by
 have nw:D∉wr:=fun m=>hDf (W.sub _ m);have sub:∀ b∈wr,b∈D::wr:=fun b m=>List.mem_cons_of_mem _ m;intro c
 induction c with
 |zero=>
  intro i s hk hi st T kp fin;have e:i=n:=by omega
  subst e;refine codeAny_builtin zoK ?_;rw[Around.under_plainId ziR _];show wpAny _ A.in1 (pyNext (.ref I) >>= _) _ _ s;refine wpAny_bind (W.done s _ _ st fun s' mv=>?_);show wpAny _ A.in1 (Builtin.Dict.addKeywords D [] >>= _) _ _ s';refine wpAny_bind (wpAny_pure ?_);rw[<- hn,List.take_length] at T;refine wpAny_pure (fin s' (mv.mono sub) ?_);obtain⟨o,es,ep,ho,r⟩:=T;exact⟨o,es,ep,mv.heap D _ nw ho,r⟩
 |succ c ih=>
  intro i s hk hi st T kp fin;have lt:i<n:=by omega
  refine codeAny_builtin zoK ?_;rw[Around.under_plainId ziR _];show wpAny _ A.in1 (pyNext (.ref I) >>= _) _ _ s;refine wpAny_bind (W.item i s _ _ lt st fun v s' hP st' mv=>?_);obtain⟨p,o,m,key,x,k,rfl,np,ho,hc,hd,hkv,his⟩:=hv i v hP;have npw:p∉wr:=fun q=>np (sub _ q);have ho':=mv.heap p _ npw (kp p o np ho)
  have T':s'.heap.DictOf (mixKind prog w) D (putAll (kvs.take i)):=by
   obtain⟨od,es,ep,hod,r⟩:=T;exact⟨od,es,ep,mv.heap D _ nw hod,r⟩
  have len:(putAll (kvs.take i)).length<=1000:=by
   have z:∀(l acc:List (Key×Value)),(l.foldl (fun acc kv=>stored acc kv.1 kv.2) acc).length<=acc.length+l.length:=by
    intro l
    induction l with
    |nil=>intro acc;simp
    |cons kv r ih2=>
     intro acc;refine Nat.le_trans (ih2 _) ?_;have:=zfQ acc kv.1 kv.2;simp only[List.length_cons];omega
   have z2:=z (kvs.take i) [];rw[List.length_take,List.length_nil] at z2;show(List.foldl (fun(acc:List (Key×Value))(kv:Key×Value)=>stored acc kv.1 kv.2) [] (kvs.take i)).length<=1000;omega
  have et:putAll (kvs.take (i+1))=stored (putAll (kvs.take i)) k x:=by
   unfold putAll;rw[List.take_add_one,hkv,List.foldl_append];rfl
  dsimp only;refine wpAny_bind (wpAny_holding ?_);refine wpAny_bind (wpAny_tryCatch ?_);unfold Builtin.Dict.pairItems;refine wpAny_bind (wpAny_typeOf (T:="tuple") ⟨o,ho',hc⟩ ?_);rw[if_pos (by decide)];refine wpAny_bind (wpAny_seqItems ho' hd (wpAny_pure ?_));dsimp only[Option.getD_some];refine wpAny_holding (wpAny_dictSet_pairs his T' (fun h' dd sb=>?_) (Nat.le_of_lt (zas len)));rw[<- et] at dd;refine wpAny_pure ⟨plainId_quiet ziR _,ih (i+1) _ (by omega) lt (W.frame _ s' _ _ st' (Nat.le_succ _) fun b hb ob e=>?_) dd (fun b ob hb e=>?_) fun s2 mv2 T3=>?_⟩
  ·rw[sb.2 b (fun q:b=D=>hDf (q▸hb))];exact e
  ·rw[sb.2 b (fun q:b=D=>hb (q▸List.mem_cons_self))];exact mv.heap b ob (fun q=>hb (sub _ q)) (kp b ob hb e)
  ·refine fin s2 (Moved.trans W.gtrans ((mv.mono sub).then_heap (Nat.le_succ _) fun b ob hb e=>?_) mv2) T3;rw[sb.2 b (fun q:b=D=>hb (q▸List.mem_cons_self))];exact e
end
end L2
namespace L2
open PySem PySem.Spec PyProof.Rows
section
variable {prog:Program}{w:World}{A:Around}{E:Value->Shared->Prop}{s:Shared}
theorem zgi {l:Addr}{its:List Value}{m:Nat}{kvs:List (Key×Value)}{Q:Value->Shared->Prop}(hh:A.handled=none)(hl:s.heap.get? l=some { cls:=.type "list",data:=.seq its.toArray m })(few:its.length<=1000)(hn:kvs.length=its.length)
  (hv:∀(i:Nat)(v:Value),its[i]?=some v->∃ p o m key x k,v=.ref p/\s.heap.get? p=some o/\o.cls=.type "tuple"/\o.data=.seq #[key,x] m/\kvs[i]?=some (k,x)/\(mixKind prog w).is k key=true)
  (h:∀ h' tk,h'.DictOf (mixKind prog w) s.heap.objs.size (putAll kvs)->(∀ b o,s.heap.get? b=some o->h'.get? b=some o)->Q (.ref s.heap.objs.size) { s with heap:=h',toks:=tk }) :
  wpAny (model prog w) A (call (.type "dict") [.ref l]) Q E s:=by
 refine callType_codes (Q₁:=fun obj s₁=>obj=.ref s.heap.objs.size/\s₁={ s with heap:=s.heap.push { cls:=.type "dict",data:=.dict #[] } }) PySem.F.kt_called_dict (PySem.F.kt_typeCall_dict_1 _) PySem.F.entry_dict_init (kt_code_dict_new _ ⟨rfl,rfl⟩) ?_;rintro obj s₁ ⟨rfl,rfl⟩;have new:(s.heap.push { cls:=.type "dict",data:=.dict #[] }).DictOf (mixKind prog w) s.heap.objs.size []:=Heap.DictOf.new s.heap;refine⟨new.typeIs,PySem.F.args_dict_init_2 _ _,?_⟩;unfold Builtin.«dict.__init__»;refine wpAny_bind ?_;unfold Builtin.Dict.selfAndRest;refine wpAny_bind (wpAny_notOrdered_dict new.typeIs ?_);show wpAny _ _ (pure (s.heap.objs.size,[Value.ref l])) _ _ _;refine wpAny_pure ?_;show wpAny _ _ (Builtin.Dict.updateFrom "dict.__init__" s.heap.objs.size (.ref l) [] .none) _ _ _;unfold Builtin.Dict.updateFrom;have l1:(s.heap.push { cls:=.type "dict",data:=.dict #[] }).get? l=some { cls:=.type "list",data:=.seq its.toArray m }:=Heap.get?_push_of_some _ hl;refine wpAny_bind (wpAny_typeOf (T:="list") ⟨_,l1,rfl⟩ ?_);rw[if_pos (by decide)];refine wpAny_bind (zlh l1 (by simp [hh]) fun h1 tk1 k1=>?_);rw[if_pos (show(none:Option Value).isNone=true from rfl)];refine wpAny_bind (wpAny_rule ?_);have l2:=k1 _ _ l1;have L2':h1.IsList l its.toArray:=⟨_,l2,rfl,m,rfl⟩
 have d1:h1.DictOf (mixKind prog w) s.heap.objs.size []:=by
  obtain⟨o,es,ep,ho,r⟩:=new;exact⟨o,es,ep,k1 _ _ ho,r⟩
 refine wpAny_bind (wpAny_pyIter_list L2' ?_)
 have sz:s.heap.objs.size<h1.objs.size:=by
  obtain⟨o,es,ep,ho,r⟩:=d1;exact Heap.lt_size ho
 have lt:l<s.heap.objs.size:=Heap.lt_size hl;have ne:l≠h1.objs.size:=Nat.ne_of_lt (Nat.lt_trans lt sz)
 have nf:s.heap.objs.size∉[h1.objs.size,l]:=by
  simp only[List.mem_cons,List.mem_singleton,List.not_mem_nil,or_false,not_or];exact⟨Nat.ne_of_lt sz,Nat.ne_of_gt lt⟩
 refine wpAny_pure ⟨plainId_quiet ziR _,?_⟩
 refine zoX ((Walks.list (by simp [hh]) _ l ne its.toArray).toS) s.heap.objs.size nf h1 kvs .none (by rw[List.size_toArray];exact few) (fun i v e=>?_) (by rw[List.size_toArray];exact hn) (its.toArray.size-0) 0 _ (by omega) (Nat.zero_le _)
  ⟨⟨_,Heap.get?_push_size _ rfl,rfl,rfl⟩,L2'.push _⟩ ?_ (fun b o _ e=>Heap.get?_push_of_some _ e) (fun s' mv T=>?_)
 ·obtain⟨p,o,m',key,x,k,rfl,ho,r⟩:=hv i v (by simpa using e);have lp:p<s.heap.objs.size:=Heap.lt_size ho;refine⟨p,o,m',key,x,k,rfl,?_,k1 _ _ (Heap.get?_push_of_some _ ho),r⟩;simp only[List.mem_cons,List.mem_singleton,List.not_mem_nil,or_false,not_or];exact⟨Nat.ne_of_lt lp,Nat.ne_of_lt (Nat.lt_trans lp sz)⟩
 ·exact d1.push _
 ·rw[Moved.eq_with mv];refine⟨rfl,h s'.heap s'.toks T fun b o e=>?_⟩;have lb:b<s.heap.objs.size:=Heap.lt_size e;refine mv.heap b o ?_ (Heap.get?_push_of_some _ (k1 _ _ (Heap.get?_push_of_some _ e)));simp only[List.mem_cons,List.mem_singleton,List.not_mem_nil,or_false,not_or];exact⟨Nat.ne_of_lt lb,Nat.ne_of_lt (Nat.lt_trans lb sz)⟩
end
def putV (kvs:List (Key×V)):List (Key×V):=kvs.foldl (fun acc kv=>putK acc kv.1 kv.2) []
theorem ziM (kvs:List (Key×V)):(putV kvs).length<=kvs.length:=by
 have z:∀(l acc:List (Key×V)),(l.foldl (fun acc kv=>putK acc kv.1 kv.2) acc).length<=acc.length+l.length:=by
  intro l
  induction l with
  |nil=>intro acc;simp
  |cons kv r ih=>
   intro acc;refine Nat.le_trans (ih _) ?_;have:=zbf acc kv.1 kv.2;simp only[List.length_cons];omega
 have q:=z kvs [];rw[List.length_nil,Nat.zero_add] at q;exact q
section
variable {X:Cx}
theorem zhw {kvs:List (Key×V)}{vs:List (Key×Value)}(r:KV kvs vs):KV (putV kvs) (putAll vs):=by
 have z:∀{l:List (Key×V)}{m:List (Key×Value)}{acc:List (Key×V)}{acc':List (Key×Value)},KV l m->KV acc acc'->KV (l.foldl (fun acc kv=>putK acc kv.1 kv.2) acc) (m.foldl (fun acc kv=>stored acc kv.1 kv.2) acc'):=by
  intro l
  induction l with
  |nil=>intro m acc acc' h g;cases h;exact g
  |cons kv r ih=>
   intro m acc acc' h g
   match m,h with
   |b::m',.cons h t=>
    obtain⟨e,rv⟩:=h;refine ih (m:=m') (acc:=putK acc kv.1 kv.2) (acc':=stored acc' b.1 b.2) t ?_;rw[<- e];exact g.put _ rv
 exact z r .nil
end
end L2
set_option maxHeartbeats 1000000
namespace L2
open PySem PySem.Spec PyProof.Rows
section
variable {X:Cx}
def znd (K:Frag):R2:=fun x y H Q=>∃ a b xs ys,x=.ref a/\y=.ref b/\SqT K H a xs/\SqT K H b ys/\xs.length+ys.length<=sizeLine /\
 (xs=[]->Q (.ref b) H)/\(xs≠[]->ys=[]->Q (.ref a) H)/\(xs≠[]->ys≠[]->∀ p,H p=none->Q (.ref p) (upd H p (.tup (xs++ys))))
theorem op_cat0:OpR X (binaryOp .Add) (znd X.K):=by
 intro pins s σ H x y v u Q I rx ry h;obtain⟨a,b,xs,ys,rfl,rfl,ha,hb,hz,q0,q1,q2⟩:=h;by_cases hx:xs=[]
 ·cases rx;cases ry;obtain⟨its,r1,p1,_⟩:=I.tuple ha;obtain⟨its2,r2,p2,_⟩:=I.tuple hb;have e:its=[]:=r1.nil_iff.mpr hx;obtain⟨⟨cls,dd,data,sl⟩,ho,hc,n,hd⟩:=id p1;obtain⟨⟨cls2,dd2,data2,sl2⟩,ho2,hc2,n2,hd2⟩:=id p2;simp only at hc hd hc2 hd2;subst hc hd hc2 hd2
  exact concat_meets ⟨_,ho,rfl⟩ ⟨_,ho2,rfl⟩ noFill_tuple_add seq_tuple_add PySem.F.slot_tuple_add PySem.F.entry_tuple_add (PySem.F.args_tuple_add_2 _ _)
   (tuple_addW0 a b its.toArray its2.toArray n n2 dd dd2 sl sl2 (by simp [e])) ⟨ho,ho2,⟨.ref b,H,I,rfl,q0 hx⟩⟩
 ·exact zlc pins s σ H _ _ v u Q I rx ry ⟨a,b,xs,ys,rfl,rfl,ha,hb,hx,hz,q1 hx,q2 hx⟩
end
end L2
namespace L2
open PySem PySem.Spec PyProof.Rows
section
variable {X:Cx}{pins:List (Addr×Obj)}{σ:St}{H:Hp}{s:Shared}
theorem Inv.freezeD {p:Addr}{kvs:List (Key×V)}(I:Inv X pins σ H s)(h:H p=some (.dK kvs)):∃ od,Inv X pins σ (upd H p (.frz od (.dK kvs))) s:=by
 obtain⟨z,n,vs,r,ob,es,ep,e,rest⟩:=zgh I.hok h;refine⟨ob,I.write (x:=p) (e:=p) (h':=s.heap) (t':=s.toks) (by rw[h];trivial) (.inl rfl) (fun _ _ _ q=>q) ⟨ob,e⟩ ⟨e,z,n,vs,r,ob,es,ep,e,rest⟩⟩
theorem PE.post {e:Expr}{t t':TE}(h:PE X e t)(f:∀ σ H Q,t' σ H Q->t σ H fun v H1=>∀ pins s,Inv X pins σ H1 s->∃ H2,Inv X pins σ H2 s/\Q v H2):PE X e t':=fun pins s σ H Q I w=>
 thn (h pins s σ H _ I (f _ _ _ w)) fun u s1 ⟨v,H1,I1,r,q⟩=>by
  obtain⟨H2,I2,q2⟩:=q pins s1 I1;exact⟨v,H2,I2,r,q2⟩
theorem zeI:CallR X (.type "dict") (fun xs H Q=>∃ a kvs,xs=[.ref a]/\Rd H a (.dK kvs)/\∀ p,H p=none->Q (.ref p) (upd H p (.dK kvs))):=by
 intro pins s σ H xs us Q I r h;obtain⟨a,kvs,rfl,ha,q⟩:=h;obtain⟨u,rfl,ru⟩:=zbk r;cases ru;exact zjz I ha fun p s' hp I'=>⟨.ref p,_,I',rfl,q p hp⟩
theorem zfU:MtR X "dict.update" (fun x vs H Q=>∃ d o kvs more,x=.ref d/\vs=[.ref o]/\d≠o/\H d=some (.dK kvs)/\Rd H o (.dK more)/\kvs.length+more.length<=sizeLine/\Q .non (upd H d (.dK (mergeK kvs more)))):=by
 intro pins s σ H x xs v us Q I rx rv h;obtain⟨d,o,kvs,more,rfl,rfl,hne,hd,ho,hz,q⟩:=h;cases rx;obtain⟨u,rfl,ru⟩:=zbk rv;cases ru;obtain⟨z1,n1,vs1,r1,dd1⟩:=zgh I.hok hd;obtain⟨z2,n2,vs2,r2,dd2⟩:=ho.ok I.hok
 refine call_meetsIn PySem.F.slot_dict_update dd1.typeIs PySem.F.entry_dict_update (PySem.F.args_dict_update_2 _ _) (meets_dict_update (mixKind X.prog X.w) d o hne n2)
  ⟨vs1,vs2,dd1,dd2,(by rw[<- r1.length,<- r2.length];exact hz),fun h' dd' _ hs=>?_⟩
 refine⟨.non,_,zdb (t':=s.toks) I (by rw[hd];trivial) hs ?_ (zdy (Nat.le_trans (zaK _ _) hz) n1 (KV.merge r2 r1) dd'),rfl,q⟩;obtain⟨ob,_,_,e,_⟩:=dd';exact⟨ob,e⟩
def Itd (a:Addr)(od:Obj):It:=
 ⟨fun i H=>∃ kvs kv,H a=some (.frz od (.dK kvs))/\kvs[i]?=some kv,fun i H x H'=>H'=H/\∀ kvs,H a=some (.frz od (.dK kvs))->∃ kv,kvs[i]?=some kv/\x=kV kv.1,fun i H=>∃ kvs,H a=some (.frz od (.dK kvs))/\kvs.length<=i⟩
theorem zpR {kvs:List (Key×V)}{vs:List (Key×Value)}(h:KV kvs vs){i:Nat}{kv:Key×V}(e:kvs[i]?=some kv):∃ u,vs[i]?=some (kv.1,u):=by
 unfold KV at h
 induction h generalizing i with
 |nil=>simp at e
 |@cons p q xs ys h1 h2 ih=>
  cases i with
  |zero=>
   simp only[List.getElem?_cons_zero,Option.some.injEq] at e;subst e;exact⟨q.2,by rw[h1.1];rfl⟩
  |succ i=>exact ih (by simpa using e)
theorem zkn {a:Addr}{od:Obj}{kvs:List (Key×V)}{es:Array DictEntry}{ep:Nat}(I:Inv X pins σ H s)(h:H a=some (.frz od (.dK kvs)))(hd:od.data=.dict es ep):∃ vs,KV kvs vs/\s.heap.DictAt (mixKind X.prog X.w) a vs ep/\es.size=vs.length:=by
 obtain⟨e,z,n,vs,r,ob,es',ep',e',c,d,q1,q2,q3⟩:=I.hok a _ h;rw[e] at e';cases e';rw[hd] at d;cases d;exact⟨vs,r,⟨od,es,e,c,hd,q1,q2,q3⟩,by rw[<- q2.length];simp⟩
theorem zlr {k:Key}{v:Value}(h:keyIs k v=true):RelV (kV k) v:=by
 rcases zap h with ⟨i,t,rfl,rfl⟩|⟨x,t,rfl,rfl⟩
 ·exact⟨t,rfl⟩
 ·exact⟨t,rfl⟩
theorem zgs {P:Program}{w:World}{K:Frag}{tg:Expr}(a it:Addr)(od:Obj)(es:Array DictEntry)(ep:Nat)(hd:od.data=.dict es ep):Turn P w K tg (Itd a od) [it] it (fun i h=>h.IsKeyIter it a i es.size ep) where
 mem:=by simp
 obj:=fun i h st b hb=>by
  have e:b=it:=by simpa using hb
  subst e;obtain⟨o,e,c,d⟩:=st;exact⟨o,e,fun v z=>by rw[d] at z;cases z⟩
 keep:=fun i h h' st k=>by
  obtain⟨o,e,c,d⟩:=st;exact⟨o,k it (by simp) o e,c,d⟩
 item:=by
  intro X hP hw hK hc i pins s σ H E I hf st hg;subst hP hw hK;obtain⟨kvs,kv,hq,hx⟩:=hg;obtain⟨vs,r,da,hsz⟩:=zkn I hq hd;obtain⟨u,hu⟩:=zpR r hx;obtain⟨f0,f1,f2,f3,f4,f5⟩:=hf it (by simp);rw[hsz] at st;refine wpAny_pyNext_dict_item st da hu fun key h' hk st' sb=>?_;have I1:Inv X pins σ H { s with heap:=h' }:=I.turned (t':=s.toks) (fun b o hb e=>(sb.2 b hb).trans e) f0 f1 f3 f4 f5;obtain⟨o,e,c,d⟩:=id st';refine⟨key,rfl,zgb (s:={ s with heap:=h' }) e c d (by decide) ⟨kV kv.1,H,I1,zlr hk,⟨rfl,fun ys hy=>?_⟩,by rw[hsz];exact st',fun b hb=>(hf b hb).1⟩⟩;rw[hq] at hy;cases hy;exact⟨kv,hx,rfl⟩
 done:=by
  intro X hP hw hK hc i pins s σ H E I hf st hg;subst hP hw hK;obtain⟨kvs,hq,hx⟩:=hg;obtain⟨vs,r,da,hsz⟩:=zkn I hq hd;obtain⟨f0,f1,f2,f3,f4,f5⟩:=hf it (by simp);have hl:=r.length;rw[hsz] at st;exact wpAny_pyNext_dict_end (I.ok.hd hc) st da (List.getElem?_eq_none (by omega)) fun h' eb=>⟨rfl,I.turned (t':=s.toks) (fun b o hb e=>eb b o hb e) f0 f1 f3 f4 f5⟩
 self:=fun A i s Q E st h=>by
  refine wpAny_pyIter_slot st.typeIs F.slot_dict_keyiterator_iter (wpAny_call_entry F.slot_dict_keyiterator_iter st.typeIs F.entry_dict_keyiterator_iter ?_ (F.args_dict_keyiterator_iter_1 _));show wpAny _ _ (ret (.ref it)) _ _ s;exact wpAny_pure ⟨_,rfl,"dict_keyiterator",_,st.typeIs,F.slot_dict_keyiterator_next.lookup,h⟩
end
end L2
namespace L2
open PySem PySem.Spec PyProof.Rows
inductive PV where
 |non|bl (b:Bool)|int (i:Int)|str (x:Str)|tup (xs:List PV)|lst (xs:List PV)|dic (kvs:List (PV×PV))|raw (v:V)
def DcAt (H:Hp)(a:Addr)(kws:List (V×V)):Prop:=∃(kvs:List (Key×V))(od:Obj),H a=some (.frz od (.dK kvs))/\kws=kvs.map fun kv=>(kV kv.1,kv.2)
mutual
inductive RV (K:Frag)(N:Addr->Prop)(H:Hp):PV->V->Prop where
 |non:RV K N H .non .non
 |bl (b:Bool):RV K N H (.bl b) (.bl b)
 |int (i:Int):RV K N H (.int i) (.int i)
 |str (x:Str):RV K N H (.str x) (.str x)
 |raw (a:Addr):RV K N H (.raw (.ref a)) (.ref a)
 |tup {a:Addr}{xs:List PV}{vs:List V}:SqT K H a vs->RVs K N H xs vs->RV K N H (.tup xs) (.ref a)
 |lst {a:Addr}{xs:List PV}{vs:List V}:¬ N a->H a=some (.lst vs)->RVs K N H xs vs->RV K N H (.lst xs) (.ref a)
 |dic {a:Addr}{kvs:List (PV×PV)}{kws:List (V×V)}:¬ N a->DcAt H a kws->RKs K N H kvs kws->RV K N H (.dic kvs) (.ref a)
inductive RVs (K:Frag)(N:Addr->Prop)(H:Hp):List PV->List V->Prop where
 |nil:RVs K N H [] []
 |cons {x:PV}{v:V}{xs:List PV}{vs:List V}:RV K N H x v->RVs K N H xs vs->RVs K N H (x::xs) (v::vs)
inductive RKs (K:Frag)(N:Addr->Prop)(H:Hp):List (PV×PV)->List (V×V)->Prop where
 |nil:RKs K N H [] []
 |cons {k x:PV}{l v:V}{xs:List (PV×PV)}{vs:List (V×V)}:RV K N H k l->RV K N H x v->RKs K N H xs vs->RKs K N H ((k,x)::xs) ((l,v)::vs)
end
section
variable {K:Frag}{N N':Addr->Prop}{H H':Hp}
structure KeepV (K:Frag)(N N':Addr->Prop)(H H':Hp):Prop where
 t:∀ a vs,SqT K H a vs->SqT K H' a vs
 l:∀ a o,¬ N a->H a=some o->¬ N' a/\H' a=some o
theorem RV.imp (k:KeepV K N N' H H'){x:PV}{v:V}(h:RV K N H x v):RV K N' H' x v:=by
 refine RV.rec (motive_1:=fun x v _=>RV K N' H' x v) (motive_2:=fun xs vs _=>RVs K N' H' xs vs) (motive_3:=fun xs vs _=>RKs K N' H' xs vs) .non .bl .int .str .raw
  (fun h _ r=>.tup (k.t _ _ h) r) (fun n h _ r=>.lst (k.l _ _ n h).1 (k.l _ _ n h).2 r) (fun n h _ r=>?_) .nil (fun _ _ r s=>.cons r s) .nil (fun _ _ _ a b r=>.cons a b r) h
 obtain⟨kvs,od,h1,rfl⟩:=h;exact .dic (k.l _ _ n h1).1 ⟨kvs,od,(k.l _ _ n h1).2,rfl⟩ r
theorem RVs.imp (k:KeepV K N N' H H'){xs:List PV}{vs:List V}(h:RVs K N H xs vs):RVs K N' H' xs vs:=by
 induction vs generalizing xs with
 |nil=>cases h;exact .nil
 |cons v vs ih=>cases h with|cons h1 h2=>exact .cons (h1.imp k) (ih h2)
theorem RKs.imp (k:KeepV K N N' H H'){xs:List (PV×PV)}{vs:List (V×V)}(h:RKs K N H xs vs):RKs K N' H' xs vs:=by
 induction vs generalizing xs with
 |nil=>cases h;exact .nil
 |cons v vs ih=>cases h with|cons h1 h2 h3=>exact .cons (h1.imp k) (h2.imp k) (ih h3)
theorem RVs.len {xs:List PV}{vs:List V}(h:RVs K N H xs vs):xs.length=vs.length:=by
 induction vs generalizing xs with
 |nil=>cases h;rfl
 |cons v vs ih=>cases h with|cons h1 h2=>rw[List.length_cons,List.length_cons,ih h2]
theorem RVs.app {xs ys:List PV}{vs us:List V}(h:RVs K N H xs vs)(g:RVs K N H ys us):RVs K N H (xs++ys) (vs++us):=by
 induction vs generalizing xs with
 |nil=>cases h;exact g
 |cons v vs ih=>cases h with|cons h1 h2=>exact .cons h1 (ih h2)
theorem RVs.at {xs:List PV}{vs:List V}(h:RVs K N H xs vs){i:Nat}{x:PV}(e:xs[i]?=some x):∃ v,vs[i]?=some v/\RV K N H x v:=by
 induction vs generalizing xs i with
 |nil=>cases h;simp at e
 |cons v vs ih=>
  cases h with
  |cons h1 h2=>
   cases i with
   |zero=>cases e;exact⟨v,rfl,h1⟩
   |succ i=>exact ih h2 (by simpa using e)
theorem RVs.at' {xs:List PV}{vs:List V}(h:RVs K N H xs vs){i:Nat}{v:V}(e:vs[i]?=some v):∃ x,xs[i]?=some x/\RV K N H x v:=by
 induction vs generalizing xs i with
 |nil=>simp at e
 |cons u vs ih=>
  cases h with
  |cons h1 h2=>
   cases i with
   |zero=>cases e;exact⟨_,rfl,h1⟩
   |succ i=>exact ih h2 (by simpa using e)
theorem RVs.take {xs:List PV}{vs:List V}(h:RVs K N H xs vs)(n:Nat):RVs K N H (xs.take n) (vs.take n):=by
 induction vs generalizing xs n with
 |nil=>cases h;simpa using RVs.nil
 |cons u vs ih=>
  cases h with
  |cons h1 h2=>
   cases n with
   |zero=>exact .nil
   |succ n=>exact .cons h1 (ih h2 n)
theorem RVs.drop {xs:List PV}{vs:List V}(h:RVs K N H xs vs)(n:Nat):RVs K N H (xs.drop n) (vs.drop n):=by
 induction vs generalizing xs n with
 |nil=>cases h;simpa using RVs.nil
 |cons u vs ih=>
  cases h with
  |cons h1 h2=>
   cases n with
   |zero=>exact .cons h1 h2
   |succ n=>exact ih h2 n
theorem RVs.rev {xs:List PV}{vs:List V}(h:RVs K N H xs vs):RVs K N H xs.reverse vs.reverse:=by
 induction vs generalizing xs with
 |nil=>cases h;exact .nil
 |cons u vs ih=>
  cases h with
  |cons h1 h2=>rw[List.reverse_cons,List.reverse_cons];exact(ih h2).app (.cons h1 .nil)
end
inductive OC where
 |lst (xs:List PV)|dic (kvs:List (PV×PV))|ins (C dx:Addr)(fs:List (Str×PV))
def OC.pv:OC->PV
 |.lst xs=>.lst xs
 |.dic kvs=>.dic kvs
 |.ins _ _ _=>.raw .non
def OC.Ld:OC->Prop
 |.ins _ _ _=>False
 |_=>True
def RFs (K:Frag)(N:Addr->Prop)(H:Hp)(fs:List (Str×PV))(ws:List (Str×V)):Prop:=fs.map Prod.fst=ws.map Prod.fst/\RVs K N H (fs.map Prod.snd) (ws.map Prod.snd)
inductive Sl where
 |val (x:PV)|own (a:Addr)(c:OC)|peek (a:Addr)(c:OC)
structure SSt where
 d:Addr
 a:Addr
 n:Nat
 b:Bs
structure AS where
 B:Addr->Prop
 rho:List (Option Sl)
 S:Option SSt
def Own (rho:List (Option Sl))(a:Addr):Prop:=∃(i:Nat)(c:OC),rho[i]?=some (some (.own a c))
def AN (A:AS)(a:Addr):Prop:=A.B a\/Own A.rho a
def Mt (A:AS)(a:Addr):Prop:=Own A.rho a\/∃ st,A.S=some st/\st.d=a
def OcAt (K:Frag)(N:Addr->Prop)(H:Hp)(a:Addr):OC->Prop
 |.lst xs=>∃ vs,H a=some (.lst vs)/\RVs K N H xs vs
 |.dic kvs=>∃ kws:List (Key×V),H a=some (.dK kws)/\RKs K N H kvs (kws.map fun kv=>(kV kv.1,kv.2))
 |.ins C dx fs=>∃ ws:List (Str×V),H a=some (.ins C dx ws)/\RFs K N H fs ws
def SlAt (K:Frag)(A:AS)(H:Hp):Sl->V->Prop
 |.val x,v=>RV K (AN A) H x v
 |.own a c,v=>v=.ref a/\¬ A.B a/\OcAt K (AN A) H a c
 |.peek a c,v=>v=.ref a/\A.B a/\OcAt K (AN A) H a c
def ScrF (K:Frag)(H:Hp)(a:Addr):Prop:=∃ ns:List Int,ns.length<=63/\((∃ o:Obj,H a=some (.frz o (.lst (ns.map V.int))))\/∃(o:Obj)(its:Array Value)(n:Nat),K.lookup a=some o/\o.cls=.type "list"/\o.dict=none/\o.data=.seq its n/\its.size<=sizeLine/\Vals (ns.map V.int) its.toList)
theorem ScrF.scr {K:Frag}{H:Hp}{a:Addr}(h:ScrF K H a):Scr K H a:=by
 obtain⟨ns,l,⟨o,h⟩|h⟩:=h
 ·exact⟨ns,.inl (.inr ⟨o,h⟩),l⟩
 ·exact⟨ns,.inr h,l⟩
theorem ScrF.keepF {K:Frag}{H H':Hp}{a:Addr}(h:ScrF K H a)(f:∀ o u,H a=some (.frz o u)->H' a=some (.frz o u)):ScrF K H' a:=by
 obtain⟨ns,l,⟨o,h⟩|h⟩:=h
 ·exact⟨ns,l,.inl ⟨o,f _ _ h⟩⟩
 ·exact⟨ns,l,.inr h⟩
theorem ScrF.keep {K:Frag}{H H':Hp}{a:Addr}(h:ScrF K H a)(f:∀ o,H a=some o->H' a=some o):ScrF K H' a:=h.keepF fun _ _=>f _
theorem StAt.upd {H:Hp}{d a p:Addr}{n:Nat}{B:Bs}{o:HO}(h:StAt H d a n B)(np:p≠d)(nt:∀ ps,H p≠some (.tbl ps)):StAt (L2.upd H p o) d a n B:=by
 obtain⟨t,l,w,e,r⟩:=h.ex;exact⟨⟨t,l,w,by rw[zad np.symm];exact e,r⟩,fun T o z=>⟨by rw[zad fun y=>nt _ (y▸(h.tb T o z).1)];exact(h.tb T o z).1,(h.tb T o z).2⟩⟩
structure Rep (K:Frag)(H:Hp)(σ:St)(A:AS):Prop where
 len:σ.length=A.rho.length
 sl:∀(i:Nat)(s:Sl),A.rho[i]?=some (some s)->∃ v,σ[i]?=some (some v)/\SlAt K A H s v
 dom:∀ a,A.B a->H a≠none
 nd:∀(i j:Nat)(a:Addr)(c c':OC),A.rho[i]?=some (some (.own a c))->A.rho[j]?=some (some (.own a c'))->i=j
 st:∀ st,A.S=some st->A.B st.d/\StAt H st.d st.a st.n st.b/\ScrF K H st.a
 pk:∀(i:Nat)(a:Addr)(c:OC)(st:SSt),A.rho[i]?=some (some (.peek a c))->A.S=some st->a≠st.d
structure Stp (A:AS)(H:Hp)(A1:AS)(H1:Hp):Prop where
 fr:∀ a o,H a=some o->¬ Mt A a->H1 a=some o
 ow:∀ a,Own A1.rho a->Own A.rho a\/H a=none
 b:A1.B=A.B
 dm:∀ a,H a≠none->H1 a≠none
 sd:A1.S.map SSt.d=A.S.map SSt.d
section
variable {K:Frag}{H H1 H2:Hp}{σ:St}{A A1 A2:AS}
theorem Stp.refl (A:AS)(H:Hp):Stp A H A H:=⟨fun _ _ h _=>h,fun _ h=>.inl h,rfl,fun _ h=>h,rfl⟩
theorem sd_d {S S1:Option SSt}(e:S1.map SSt.d=S.map SSt.d){a:Addr}(h:∃ st,S1=some st/\st.d=a):∃ st,S=some st/\st.d=a:=by
 obtain⟨st,rfl,rfl⟩:=h
 cases S with
 |none=>cases e
 |some t=>exact⟨t,rfl,by simpa using e.symm⟩
theorem Stp.mt (s:Stp A H A1 H1){a:Addr}(h:Mt A1 a)(hd:H a≠none):Mt A a:=by
 rcases h with h|h
 ·rcases s.ow a h with z|z
  ·exact .inl z
  ·exact absurd z hd
 ·exact .inr (sd_d s.sd h)
theorem zaB {α:Type}{o:Option α}{x:α}(h:o=some x):o≠none:=by rw[h];intro z;cases z
theorem Stp.trans (s:Stp A H A1 H1)(t:Stp A1 H1 A2 H2):Stp A H A2 H2 where
 fr:=fun a o h n=>t.fr a o (s.fr a o h n) fun m=>n (s.mt m (zaB h))
 ow:=fun a h=>by
  rcases t.ow a h with z|z
  ·exact s.ow a z
  ·refine .inr ?_
   cases e:H a with
   |none=>rfl
   |some o=>exact absurd z (s.dm a (zaB e))
 b:=t.b.trans s.b
 dm:=fun a h=>t.dm a (s.dm a h)
 sd:=t.sd.trans s.sd
theorem Stp.same (A:AS)(s:Same H H1):Stp A H A H1 where
 fr:=fun a o h _=>s a o h
 ow:=fun _ h=>.inl h
 b:=rfl
 dm:=fun a h=>by
  cases e:H a with
  |none=>exact absurd e h
  |some o=>exact zaB (s a o e)
 sd:=rfl
theorem Rep.own_at (R:Rep K H σ A){a:Addr}(h:Own A.rho a):(∃ vs,H a=some (.lst vs))\/(∃ kvs,H a=some (.dK kvs))\/∃ C dx ws,H a=some (.ins C dx ws):=by
 obtain⟨i,c,h⟩:=h;obtain⟨v,_,_,_,o⟩:=R.sl i _ h
 cases c with
 |lst xs=>obtain⟨vs,h,_⟩:=o;exact .inl ⟨vs,h⟩
 |dic xs=>obtain⟨vs,h,_⟩:=o;exact .inr (.inl ⟨vs,h⟩)
 |ins C dx xs=>obtain⟨vs,h,_⟩:=o;exact .inr (.inr ⟨_,_,vs,h⟩)
theorem Rep.mt_at (R:Rep K H σ A){a:Addr}(h:Mt A a):(∃ vs,H a=some (.lst vs))\/(∃ kvs,H a=some (.dK kvs))\/∃ C dx ws,H a=some (.ins C dx ws):=by
 rcases h with h|⟨st,h,rfl⟩
 ·exact R.own_at h
 ·exact .inr (.inl (R.st st h).2.1.dk)
theorem Rep.mt_an (R:Rep K H σ A){a:Addr}(h:Mt A a):AN A a:=by
 rcases h with h|⟨st,h,rfl⟩
 ·exact .inr h
 ·exact .inl (R.st st h).1
theorem zgO {a:Addr}{u:HO}{n:Prop}(f:∀ o,H a=some o->¬ n->H1 a=some o)(hn:¬ n)(h:Rd H a u):Rd H1 a u:=by
 rcases h with h|⟨o,h⟩
 ·exact .inl (f _ h hn)
 ·exact .inr ⟨o,f _ h hn⟩
theorem Rep.keep (R:Rep K H σ A)(s:Stp A H A1 H1):KeepV K (AN A) (AN A1) H H1:=by
 have nan:∀ a,¬ AN A a->H a≠none->¬ AN A1 a:=by
  rintro a n hd (h|h)
  ·exact n (.inl (by rw[<- s.b];exact h))
  ·rcases s.ow a h with z|z
   ·exact n (.inr z)
   ·exact hd z
 refine⟨fun a vs h=>?_,fun a o n h=>⟨nan a n (zaB h),s.fr a o h fun m=>n (R.mt_an m)⟩⟩;rcases h with h|h
 ·refine .inl (zgO (n:=Mt A a) (fun o e m=>s.fr a o e m) (fun m=>?_) h);rcases R.mt_at m with ⟨z,e⟩|⟨z,e⟩|⟨_,_,z,e⟩
  ·rcases h with h|⟨o,h⟩<;>(rw[e] at h;cases h)
  ·rcases h with h|⟨o,h⟩<;>(rw[e] at h;cases h)
  ·rcases h with h|⟨o,h⟩<;>(rw[e] at h;cases h)
 ·exact .inr h
theorem OcAt.imp {N N':Addr->Prop}(k:KeepV K N N' H H1){a:Addr}{c:OC}(e:∀ o,H a=some o->H1 a=some o)(h:OcAt K N H a c):OcAt K N' H1 a c:=by
 cases c with
 |lst xs=>obtain⟨vs,h1,h2⟩:=h;exact⟨vs,e _ h1,h2.imp k⟩
 |dic xs=>obtain⟨vs,h1,h2⟩:=h;exact⟨vs,e _ h1,h2.imp k⟩
 |ins C dx xs=>obtain⟨vs,h1,h2⟩:=h;exact⟨vs,e _ h1,h2.1,h2.2.imp k⟩
theorem Rep.same (R:Rep K H σ A)(s:Same H H1):Rep K H1 σ A where
 len:=R.len
 sl:=fun i t h=>by
  obtain⟨v,e,q⟩:=R.sl i t h;have k:=R.keep (Stp.same A s);refine⟨v,e,?_⟩
  cases t with
  |val x=>exact q.imp k
  |own a c=>exact⟨q.1,q.2.1,q.2.2.imp k fun o=>s a o⟩
  |peek a c=>exact⟨q.1,q.2.1,q.2.2.imp k fun o=>s a o⟩
 dom:=fun a h=>(Stp.same A s).dm a (R.dom a h)
 nd:=R.nd
 st:=fun st h=>by
  obtain⟨h1,h2,h3⟩:=R.st st h;exact⟨h1,h2.same s,h3.keep fun o=>s _ o⟩
 pk:=R.pk
end
end L2
namespace L2
open PySem PySem.Spec PyProof.Rows
theorem PE.mono {X:Cx}{e:Expr}{t t':TE}(h:PE X e t)(f:∀ σ H Q,t' σ H Q->t σ H Q):PE X e t':=fun pins s σ H Q I w=>h pins s σ H Q I (f _ _ _ w)
theorem PT.mono {X:Cx}{e:Expr}{t t':TT}(h:PT X e t)(f:∀ σ H Q,t' σ H Q->t σ H Q):PT X e t':=fun pins s σ H Q I w=>h pins s σ H Q I (f _ _ _ w)
theorem PW.mono {X:Cx}{e:Expr}{t t':TT}(h:PW X e t)(f:∀ σ H Q,t' σ H Q->t σ H Q):PW X e t':=fun wh pins s σ H Q I w=>h wh pins s σ H Q I (f _ _ _ w)
theorem PA.mono {X:Cx}{e:List Expr}{t t':TA}(h:PA X e t)(f:∀ σ H Q,t' σ H Q->t σ H Q):PA X e t':=fun pos pins s σ H Q I w=>h pos pins s σ H Q I (f _ _ _ w)
theorem PS.mono {X:Cx}{e:Stmt}{t t':TS}(h:PS X e t)(f:∀ D σ H,t' D σ H->t D σ H):PS X e t':=fun pins s σ H D I w=>h pins s σ H D I (f _ _ _ w)
theorem PSs.mono {X:Cx}{e:List Stmt}{t t':TS}(h:PSs X e t)(f:∀ D σ H,t' D σ H->t D σ H):PSs X e t':=fun pins s σ H D I w=>h pins s σ H D I (f _ _ _ w)
theorem PI.mono {X:Cx}{tg e:Expr}{t t':TI}(h:PI X tg e t)(f:∀ σ H Q,t' σ H Q->t σ H Q):PI X tg e t':=fun pins s σ H Q I w=>h pins s σ H Q I (f _ _ _ w)
abbrev UE:=AS->(PV->AS->Prop)->Prop
abbrev UA:=AS->(List PV->AS->Prop)->Prop
abbrev UT:=AS->(Bool->AS->Prop)->Prop
def RVq (K:Frag)(A:AS)(H:Hp)(r:PV)(v:V):Prop:=
 RV K (AN A) H r v\/∃(i:Nat)(a:Addr)(c:OC),((A.rho[i]?=some (some (.own a c))\/A.rho[i]?=some (some (.peek a c)))/\c.Ld)/\r=c.pv/\v=.ref a
section
variable {K:Frag}{H H1 H2:Hp}{σ:St}{A A1 A2:AS}
theorem RVq.step {r:PV}{v:V}(R:Rep K H σ A)(h:RVq K A H r v)(s:Stp A H A1 H1)(e:A1.rho=A.rho):RVq K A1 H1 r v:=by
 rcases h with h|h
 ·exact .inl (h.imp (R.keep s))
 ·exact .inr (by rw[e];exact h)
theorem RVq.oc {v:V}{c:OC}(R:Rep K H σ A)(h:RVq K A H c.pv v):∃ a,v=.ref a/\(match c with
  |.lst xs=>∃ vs,H a=some (.lst vs)/\RVs K (AN A) H xs vs
  |.dic kvs=>∃ kws:List (Key×V),Rd H a (.dK kws)/\RKs K (AN A) H kvs (kws.map fun kv=>(kV kv.1,kv.2))
  | .ins _ _ _=>True):=by
 rcases h with h|⟨i,a,c',h,e,rfl⟩
 ·cases c with
  |lst xs=>cases h with|lst _ h1 h2=>exact⟨_,rfl,_,h1,h2⟩
  |dic kvs=>cases h with|dic _ h1 h2=>obtain⟨kvs,od,h1,rfl⟩:=h1;exact⟨_,rfl,_,.inr ⟨od,h1⟩,h2⟩
  |ins _ _ _=>cases h
 ·have o:OcAt K (AN A) H a c':=by
   rcases h.1 with h|h
   ·obtain⟨_,_,_,_,o⟩:=R.sl i _ h;exact o
   ·obtain⟨_,_,_,_,o⟩:=R.sl i _ h;exact o
  refine⟨a,rfl,?_⟩
  cases c with
  |lst xs=>
   cases c' with
   |lst ys=>cases e;obtain⟨vs,h1,h2⟩:=o;exact⟨vs,h1,h2⟩
   |dic _=>cases e
   |ins _ _ _=>cases e
  |dic xs=>
   cases c' with
   |lst ys=>cases e
   |dic _=>cases e;obtain⟨vs,h1,h2⟩:=o;exact⟨vs,.inl h1,h2⟩
   |ins _ _ _=>cases e
  |ins _ _ _=>trivial
theorem RVq.lst {v:V}{xs:List PV}(R:Rep K H σ A)(h:RVq K A H (.lst xs) v):∃ a vs,v=.ref a/\H a=some (.lst vs)/\RVs K (AN A) H xs vs:=by
 obtain⟨a,e,vs,h1,h2⟩:=RVq.oc (c:=.lst xs) R h;exact⟨a,vs,e,h1,h2⟩
theorem RVq.dic {v:V}{kvs:List (PV×PV)}(R:Rep K H σ A)(h:RVq K A H (.dic kvs) v):∃ a kws,v=.ref a/\Rd H a (.dK kws)/\RKs K (AN A) H kvs (kws.map fun kv=>(kV kv.1,kv.2)):=by
 obtain⟨a,e,vs,h1,h2⟩:=RVq.oc (c:=.dic kvs) R h;exact⟨a,vs,e,h1,h2⟩
theorem RVq.rv {v:V}{r:PV}(h:RVq K A H r v)(hn:∀ c:OC,r≠c.pv):RV K (AN A) H r v:=by
 rcases h with h|⟨_,_,c,_,e,_⟩
 ·exact h
 ·exact absurd e (hn c)
theorem RVq.tup {v:V}{xs:List PV}(h:RVq K A H (.tup xs) v):∃ a vs,v=.ref a/\SqT K H a vs/\RVs K (AN A) H xs vs:=by
 have:=h.rv (by intro c;cases c<;>(intro z;cases z))
 cases this with|tup h1 h2=>exact⟨_,_,rfl,h1,h2⟩
theorem RVq.int {v:V}{i:Int}(h:RVq K A H (.int i) v):v=.int i:=by
 have:=h.rv (by intro c;cases c<;>(intro z;cases z));cases this;rfl
theorem RVq.bl {v:V}{i:Bool}(h:RVq K A H (.bl i) v):v=.bl i:=by
 have:=h.rv (by intro c;cases c<;>(intro z;cases z));cases this;rfl
theorem RVq.str {v:V}{i:Str}(h:RVq K A H (.str i) v):v=.str i:=by
 have:=h.rv (by intro c;cases c<;>(intro z;cases z));cases this;rfl
theorem RVq.non {v:V}(h:RVq K A H .non v):v=.non:=by
 have:=h.rv (by intro c;cases c<;>(intro z;cases z));cases this;rfl
end
def liftV (K:Frag)(u:UE):TE:=fun σ H Q=>∃ A P,Rep K H σ A/\u A P/\∀ r A1 v H1,P r A1->Rep K H1 σ A1->Stp A H A1 H1->RV K (AN A1) H1 r v->Q v H1
def liftQ (K:Frag)(u:UE):TE:=fun σ H Q=>∃ A P,Rep K H σ A/\u A P/\∀ r A1 v H1,P r A1->Rep K H1 σ A1->Stp A H A1 H1->RVq K A1 H1 r v->Q v H1
def FrV (K:Frag)(N:Addr->Prop)(H0 H1:Hp)(r:PV)(v:V):Prop:=∃ p c,r=OC.pv c/\v=.ref p/\H0 p=none/\Same H0 H1/\(match c with
  |.lst xs=>∃ vs,H1 p=some (.lst vs)/\RVs K N H0 xs vs
  |.dic kvs=>∃ kws:List (Key×V),H1 p=some (.dK kws)/\RKs K N H0 kvs (kws.map fun kv=>(kV kv.1,kv.2))
  | .ins _ _ _=>False)
def liftF (K:Frag)(u:UE):TE:=fun σ H Q=>∃ A P,Rep K H σ A/\u A P/\∀ r A1 v H0 H1,P r A1->Rep K H0 σ A1->Stp A H A1 H0->FrV K (AN A1) H0 H1 r v->Q v H1
def liftT (K:Frag)(u:UT):TT:=fun σ H Q=>∃ A P,Rep K H σ A/\u A P/\∀ b A1 H1,P b A1->Rep K H1 σ A1->Stp A H A1 H1->Q b H1
def liftA (K:Frag)(u:UA):TA:=fun σ H Q=>∃ A P,Rep K H σ A/\u A P/\∀ rs A1 vs H1,P rs A1->Rep K H1 σ A1->Stp A H A1 H1->RVs K (AN A1) H1 rs vs->Q vs H1
section
variable {X:Cx}{K:Frag}{e:Expr}{u:UE}{pos:Pos}
theorem Rep.new {H:Hp}{σ:St}{A:AS}{p:Addr}(R:Rep K H σ A)(hp:H p=none):¬ AN A p:=by
 rintro(h|h)
 ·exact R.dom p h hp
 ·rcases R.own_at h with ⟨z,e⟩|⟨z,e⟩|⟨_,_,z,e⟩<;>(rw[e] at hp;cases hp)
theorem FrV.same {N:Addr->Prop}{H0 H1:Hp}{r:PV}{v:V}(f:FrV K N H0 H1 r v):Same H0 H1:=by
 obtain⟨_,_,_,_,_,s,_⟩:=f;exact s
theorem zaz {N:Addr->Prop}{H0 H1:Hp}(s:Same H0 H1):KeepV K N N H0 H1:=⟨fun a vs h=>by
  rcases h with (h|⟨o,h⟩)|h
  ·exact .inl (.inl (s _ _ h))
  ·exact .inl (.inr ⟨o,s _ _ h⟩)
  ·exact .inr h,fun a o n h=>⟨n,s a o h⟩⟩
theorem FrV.rvL {N:Addr->Prop}{H0 H1:Hp}{xs:List PV}{v:V}(dm:∀ p,H0 p=none->¬ N p)(f:FrV K N H0 H1 (.lst xs) v):RV K N H1 (.lst xs) v:=by
 obtain⟨p,c,e,rfl,hp,s,h⟩:=f
 cases c with
 |lst ys=>cases e;obtain⟨vs,h1,h2⟩:=h;exact .lst (dm p hp) h1 (h2.imp (zaz s))
 |dic ys=>cases e
 |ins _ _ _=>exact h.elim
theorem FrV.fix {pins:List (Addr×Obj)}{σ:St}{s:Shared}{N:Addr->Prop}{H0 H1:Hp}{r:PV}{v:V}(dm:∀ p,H0 p=none->¬ N p)(f:FrV K N H0 H1 r v)(I:Inv X pins σ H1 s):∃ H2,Inv X pins σ H2 s/\Same H0 H2/\RV K N H2 r v:=by
 obtain⟨p,c,rfl,rfl,hp,sm,h⟩:=f
 cases c with
 |lst xs=>obtain⟨vs,h1,h2⟩:=h;exact⟨H1,I,sm,.lst (dm p hp) h1 (h2.imp (zaz sm))⟩
 |dic xs=>
  obtain⟨vs,h1,h2⟩:=h;obtain⟨od,I2⟩:=I.freezeD h1
  have s2:Same H0 (upd H1 p (.frz od (.dK vs))):=fun b o e=>by
   rw[zad (zag e hp)];exact sm b o e
  exact⟨_,I2,s2,.dic (dm p hp) ⟨vs,od,zab,rfl⟩ (h2.imp (zaz s2))⟩
 |ins _ _ _=>exact h.elim
theorem vf (h:PE X e (liftF K u)):PE X e (liftV K u):=h.post fun σ H Q ⟨A,P,R,h,c⟩=>⟨A,P,R,h,fun r A1 v H0 H1 p R0 S0 f pins s I=>by
 obtain⟨H2,I2,s2,rv⟩:=f.fix (fun _=>R0.new) I
 exact⟨H2,I2,c r A1 v H2 p (R0.same s2) (S0.trans (Stp.same A1 s2)) rv⟩⟩
theorem qv (h:PE X e (liftV K u)):PE X e (liftQ K u):=h.mono fun σ H Q ⟨A,P,R,h,c⟩=>⟨A,P,R,h,fun r A1 v H1 p R1 S1 rv=>c r A1 v H1 p R1 S1 (.inl rv)⟩
theorem qf (h:PE X e (liftF K u)):PE X e (liftQ K u):=qv (vf h)
def frz (A:AS)(i:Nat)(c:OC):AS:={ A with rho:=A.rho.set i (some (.val c.pv)) }
def uVar (i:Nat):UE:=fun A Q=>match A.rho[i]? with
 |some (some (.val x))=>Q x A
 |some (some (.own _ (.lst xs)))=>Q (.lst xs) (frz A i (.lst xs))
 |some (some (.own _ (.dic xs)))=>Q (.dic xs) (frz A i (.dic xs))
 |_=>False
def uPk (i:Nat):UE:=fun A Q=>match A.rho[i]? with
 |some (some (.val x))=>Q x A
 |some (some (.own _ (.lst xs)))=>Q (.lst xs) A
 |some (some (.own _ (.dic xs)))=>Q (.dic xs) A
 |some (some (.peek _ (.lst xs)))=>Q (.lst xs) A
 |some (some (.peek _ (.dic xs)))=>Q (.dic xs) A
 |_=>False
theorem zar {α:Type}{l:List α}{i j:Nat}{a b:α}(h:(l.set i a)[j]?=some b):(i=j/\b=a)\/(i≠j/\l[j]?=some b):=by
 rw[List.getElem?_set] at h;by_cases e:i=j
 ·rw[if_pos e] at h
  split at h
  ·exact .inl ⟨e,(Option.some.inj h).symm⟩
  ·cases h
 ·rw[if_neg e] at h;exact .inr ⟨e,h⟩
theorem Rep.freeze {H:Hp}{σ:St}{A:AS}{i:Nat}{a:Addr}{c:OC}(R:Rep K H σ A)(hi:A.rho[i]?=some (some (.own a c))){H2:Hp}(hb:∀ b,b≠a->H2 b=H b)(hc:match c with|.lst _=>H2=H|.dic _=>∃ kws od,H a=some (.dK kws)/\H2 a=some (.frz od (.dK kws))|.ins _ _ _=>False):Rep K H2 σ (frz A i c)/\Stp A H (frz A i c) H2/\RV K (AN (frz A i c)) H2 c.pv (.ref a)/\σ[i]?=some (some (.ref a)):=by
 have oa:Own A.rho a:=⟨i,c,hi⟩
 have ow:∀ b,Own (frz A i c).rho b->Own A.rho b/\b≠a:=by
  rintro b ⟨j,c',h⟩;rcases zar h with ⟨_,z⟩|⟨n,z⟩
  ·cases z
  ·exact⟨⟨j,c',z⟩,fun e=>n (by subst e;exact R.nd i j _ _ _ hi z)⟩
 have an:∀ b,AN (frz A i c) b->AN A b:=fun b h=>h.elim .inl fun z=>.inr (ow b z).1
 have kp:KeepV K (AN A) (AN (frz A i c)) H H2:=by
  refine⟨fun b vs h=>?_,fun b o n h=>⟨fun z=>n (an _ z),by rw[hb b fun e=>n (by rw[e];exact .inr oa)];exact h⟩⟩;rcases h with h|h
  ·by_cases e:b=a
   ·subst e;rcases R.own_at oa with ⟨z,q⟩|⟨z,q⟩|⟨_,_,z,q⟩<;>(rcases h with h|⟨o,h⟩<;>(rw[q] at h;cases h))
   ·refine .inl ?_;unfold Rd at h ⊢;rw[hb b e];exact h
  ·exact .inr h
 obtain⟨v,e,rfl,nb,oc⟩:=R.sl i _ hi
 have na:¬ AN (frz A i c) a:=by
  rintro(z|z)
  ·exact nb z
  ·exact(ow a z).2 rfl
 have rv:RV K (AN (frz A i c)) H2 c.pv (.ref a):=by
  cases c with
  |lst xs=>
   obtain⟨vs,h1,h2⟩:=oc;have e2:H2=H:=hc;exact .lst na (by rw[e2];exact h1) (h2.imp kp)
  |dic xs=>
   obtain⟨vs,h1,h2⟩:=oc;obtain⟨kws,od,e1,e2⟩:=hc;rw[h1] at e1;cases e1;exact .dic na ⟨vs,od,e2,rfl⟩ (h2.imp kp)
  |ins _ _ _=>exact hc.elim
 have ha:H2 a≠none:=by
  cases c with
  |lst xs=>
   obtain⟨vs,h1,h2⟩:=oc;have e2:H2=H:=hc;rw[e2,h1];intro z;cases z
  |dic xs=>
   obtain⟨kws,od,e1,e2⟩:=hc;rw[e2];intro z;cases z
  |ins _ _ _=>exact hc.elim
 have bn:∀ b,A.B b->b≠a:=fun b h z=>nb (by rw[<- z];exact h);refine⟨⟨?_,?_,fun b h=>by rw[hb b (bn b h)];exact R.dom b h,?_,?_,?_⟩,⟨fun b o h m=>by rw[hb b fun z=>m (by rw[z];exact .inl oa)];exact h,fun b z=>.inl (ow b z).1,rfl,fun b h=>?_,rfl⟩,rv,e⟩
 ·rw[R.len];exact(List.length_set ..).symm
 ·intro j s h;rcases zar h with ⟨rfl,z⟩|⟨n,z⟩
  ·cases z;exact⟨_,e,rv⟩
  ·obtain⟨v,e1,q⟩:=R.sl j s z;refine⟨v,e1,?_⟩
   cases s with
   |val x=>exact q.imp kp
   |own b c'=>exact⟨q.1,q.2.1,q.2.2.imp kp fun o h=>by rw[hb b fun y=>n (by subst y;exact R.nd i j _ _ _ hi z)];exact h⟩
   |peek b c'=>exact⟨q.1,q.2.1,q.2.2.imp kp fun o h=>by rw[hb b (bn b q.2.1)];exact h⟩
 ·intro i1 j1 b c1 c2 h1 h2;rcases zar h1 with ⟨_,z⟩|⟨_,z1⟩
  ·cases z
  ·rcases zar h2 with ⟨_,z⟩|⟨_,z2⟩
   ·cases z
   ·exact R.nd _ _ _ _ _ z1 z2
 ·intro st h;obtain⟨h1,h2,h3⟩:=R.st st h;refine⟨h1,?_,h3.keepF fun o u q=>?_⟩
  ·obtain⟨t,l,w,e,r⟩:=h2.ex
   exact⟨⟨t,l,w,by rw[hb _ (bn _ h1)];exact e,r⟩,fun T o z=>⟨by
    rw[hb _ fun y=>by
     have q:=(h2.tb T o z).1;rw[y] at q
     rcases R.own_at oa with ⟨y,q2⟩|⟨y,q2⟩|⟨_,_,y,q2⟩<;>(rw[q2] at q;cases q)]
    exact(h2.tb T o z).1,(h2.tb T o z).2⟩⟩
  ·rw[hb _ fun z=>by
    rw[z] at q
    rcases R.own_at oa with ⟨y,q2⟩|⟨y,q2⟩|⟨_,_,y,q2⟩<;>(rw[q2] at q;cases q)]
   exact q
 ·intro i1 b c1 st h1 h2;rcases zar h1 with ⟨_,z⟩|⟨_,z1⟩
  ·cases z
  ·exact R.pk _ _ _ _ z1 h2
 ·by_cases z:b=a
  ·rw[z];exact ha
  ·rw[hb b z];exact h
theorem vn (i:Nat){x:Str}(hN:X.N[i]?=some x:=by rfl)(hv:Vis X.env.scope x:=by first|exact Or.inl rfl|exact Or.inr (Or.inl rfl)|exact Or.inr (Or.inr rfl))(hd:(x==("__debug__":Str))=false:=by decide)
  (hcd:(x==("__classdict__":Str))=false:=by decide):PE X (.Name x pos) (liftV K (uVar i)):=(zaM hN hv hd hcd).post fun σ H Q ⟨A,P,R,h,c⟩=>by
 unfold uVar at h
 split at h
 ·rename_i x hx;obtain⟨v,e,q⟩:=R.sl i _ hx;exact⟨v,e,fun pins s I=>⟨H,I,c _ A v H h R (Stp.refl A H) q⟩⟩
 ·rename_i a xs hx;obtain⟨R1,S1,rv,e⟩:=R.freeze hx (H2:=H) (fun _ _=>rfl) rfl;exact⟨_,e,fun pins s I=>⟨H,I,c _ _ _ H h R1 S1 rv⟩⟩
 ·rename_i a xs hx;obtain⟨v,e,rfl,nb,ws,h1,h2⟩:=R.sl i _ hx;refine⟨_,e,fun pins s I=>?_⟩;obtain⟨od,I2⟩:=I.freezeD h1;obtain⟨R1,S1,rv,_⟩:=R.freeze hx (H2:=upd H a (.frz od (.dK ws))) (fun b hb=>zad hb) ⟨ws,od,h1,zab⟩;exact⟨_,I2,c _ _ _ _ h R1 S1 rv⟩
 ·exact h.elim
theorem qn (i:Nat){x:Str}(hN:X.N[i]?=some x:=by rfl)(hv:Vis X.env.scope x:=by first|exact Or.inl rfl|exact Or.inr (Or.inl rfl)|exact Or.inr (Or.inr rfl))(hd:(x==("__debug__":Str))=false:=by decide)
  (hcd:(x==("__classdict__":Str))=false:=by decide):PE X (.Name x pos) (liftQ K (uPk i)):=(zaM hN hv hd hcd).mono fun σ H Q ⟨A,P,R,h,c⟩=>by
 unfold uPk at h
 split at h
 ·rename_i x hx;obtain⟨v,e,q⟩:=R.sl i _ hx;exact⟨v,e,c _ A v H h R (Stp.refl A H) (.inl q)⟩
 ·rename_i a oc hx;obtain⟨v,e,rfl,_,q⟩:=R.sl i _ hx;exact⟨_,e,c _ A _ H h R (Stp.refl A H) (.inr ⟨i,a,.lst oc,⟨.inl hx,trivial⟩,rfl,rfl⟩)⟩
 ·rename_i a oc hx;obtain⟨v,e,rfl,_,q⟩:=R.sl i _ hx;exact⟨_,e,c _ A _ H h R (Stp.refl A H) (.inr ⟨i,a,.dic oc,⟨.inl hx,trivial⟩,rfl,rfl⟩)⟩
 ·rename_i a oc hx;obtain⟨v,e,rfl,_,q⟩:=R.sl i _ hx;exact⟨_,e,c _ A _ H h R (Stp.refl A H) (.inr ⟨i,a,.lst oc,⟨.inr hx,trivial⟩,rfl,rfl⟩)⟩
 ·rename_i a oc hx;obtain⟨v,e,rfl,_,q⟩:=R.sl i _ hx;exact⟨_,e,c _ A _ H h R (Stp.refl A H) (.inr ⟨i,a,.dic oc,⟨.inr hx,trivial⟩,rfl,rfl⟩)⟩
 ·exact h.elim
def uC (x:PV):UE:=fun A Q=>Q x A
theorem zjb {v:V}{x:PV}(h:PE X e (tC v))(r:∀ N H,RV K N H x v):PE X e (liftV K (uC x)):=h.mono fun σ H Q ⟨A,P,R,h,c⟩=>c x A v H h R (Stp.refl A H) (r _ _)
theorem vi {i:Int} {j}:PE X (.Constant (.int i) j pos) (liftV K (uC (.int i))):=zjb zaq fun _ _=>.int i
theorem vb {i:Bool} {j}:PE X (.Constant (.bool i) j pos) (liftV K (uC (.bl i))):=zjb zpP fun _ _=>.bl i
theorem vs {i:Str} {j}:PE X (.Constant (.str i) j pos) (liftV K (uC (.str i))):=zjb zao fun _ _=>.str i
theorem v0 {j}:PE X (.Constant .none j pos) (liftV K (uC .non)):=zjb znu fun _ _=>.non
end
def uNil:UA:=fun A Q=>Q [] A
def uCons (ue:UE)(ua:UA):UA:=fun A Q=>ue A fun x A1=>ua A1 fun xs A2=>Q (x::xs) A2
def uTup (u:UA):UE:=fun A Q=>u A fun xs A1=>xs.length<=1000/\Q (.tup xs) A1
def uLst (u:UA):UE:=fun A Q=>u A fun xs A1=>xs.length<=1000/\Q (.lst xs) A1
section
variable {X:Cx}{K:Frag}{e:Expr}{es:List Expr}{ue:UE}{ua:UA}{pos:Pos}
theorem an:PA X [] (liftA K uNil):=pa_nil.mono fun σ H Q ⟨A,P,R,h,c⟩=>c [] A [] H h R (Stp.refl A H) .nil
theorem ac (h1:PE X e (liftV K ue))(h2:PA X es (liftA K ua))(hs:starEach (e::es) X.env=(false,eval e X.env)::starEach es X.env:=by rfl):PA X (e::es) (liftA K (uCons ue ua)):=
 (zaf h1 h2 hs).mono fun σ H Q ⟨A,P,R,h,c⟩=>⟨A,_,R,h,fun x A1 v H1 p1 R1 S1 r1=>⟨A1,_,R1,p1,fun xs A2 vs H2 p2 R2 S2 r2=>
  c (x::xs) A2 (v::vs) H2 p2 R2 (S1.trans S2) (.cons (r1.imp (R1.keep S2)) r2)⟩⟩
theorem zhv {n:Nat}(h:n<=1000):n<=sizeLine:=Nat.le_trans h (by decide)
theorem et {x1}(h:PA X es (liftA K ua)):PE X (.Tuple es x1 pos) (liftV K (uTup ua)):=(znr h).mono fun σ H Q ⟨A,P,R,h,c⟩=>⟨A,_,R,h,fun xs A1 vs H1 p1 R1 S1 r1=>by
 obtain⟨few,p1⟩:=p1;refine⟨zhv (by rw[<- r1.len];exact few),fun p hp=>?_⟩;have s:=zal hp (.tup vs)
 exact c (.tup xs) A1 (.ref p) _ p1 (R1.same s) (S1.trans (Stp.same A1 s)) (.tup (SqT.of zab) (r1.imp (R1.keep (Stp.same A1 s))))⟩
theorem el (h:PA X es (liftA K ua)):PE X (.List es pos) (liftF K (uLst ua)):=(znv h).mono fun σ H Q ⟨A,P,R,h,c⟩=>⟨A,_,R,h,fun xs A1 vs H1 p1 R1 S1 r1=>by
 obtain⟨few,p1⟩:=p1;refine⟨zhv (by rw[<- r1.len];exact few),fun p hp=>?_⟩;have s:=zal hp (.lst vs)
 exact c (.lst xs) A1 (.ref p) H1 _ p1 R1 S1 ⟨p,.lst xs,rfl,rfl,hp,s,vs,zab,r1⟩⟩
end
abbrev G2:=PV->PV->PV->Prop
def Br2 (K:Frag)(r:R2)(G:G2):Prop:=∀(H:Hp)(A:AS)(σ:St)(x y:PV)(v w:V)(z:PV)(Q:VK),Rep K H σ A->RVq K A H x v->RVq K A H y w->G x y z ->
 (∀ v' H',Same H H'->RV K (AN A) H' z v'->Q v' H')->r v w H Q
def Br2F (K:Frag)(r:R2)(G:G2):Prop:=∀(H:Hp)(A:AS)(σ:St)(x y:PV)(v w:V)(z:PV)(Q:VK),Rep K H σ A->RVq K A H x v->RVq K A H y w->G x y z ->
 (∀ v' H',FrV K (AN A) H H' z v'->Q v' H')->r v w H Q
def u2 (G:G2)(ua ub:UE):UE:=fun A Q=>ua A fun x A1=>ub A1 fun y A2=>A2.rho=A1.rho/\∃ z,G x y z/\Q z A2
def u2t (G:G2)(ua ub:UE):UT:=fun A Q=>ua A fun x A1=>ub A1 fun y A2=>A2.rho=A1.rho/\∃ z,G x y (.bl z)/\Q z A2
section
variable {X:Cx}{K:Frag}{a b:Expr}{ua ub uc:UE}{pos:Pos}{r r':R2}{G G':G2}
theorem op2 (br:Br2 K r G):∀ σ H Q,liftV K (u2 G ua ub) σ H Q->tOp r (liftQ K ua) (liftQ K ub) σ H Q:=fun σ H Q ⟨A,P,R,h,c⟩=>
 ⟨A,_,R,h,fun x A1 v H1 p1 R1 S1 q1=>⟨A1,_,R1,p1,fun y A2 w H2 p2 R2 S2 q2=>by
  obtain⟨e,z,g,p⟩:=p2
  exact br H2 A2 σ x y v w z Q R2 (q1.step R1 S2 e) q2 g fun v' H' s rv=>c z A2 v' H' p (R2.same s) (S1.trans (S2.trans (Stp.same A2 s))) rv⟩⟩
theorem op2F (br:Br2F K r G):∀ σ H Q,liftF K (u2 G ua ub) σ H Q->tOp r (liftQ K ua) (liftQ K ub) σ H Q:=fun σ H Q ⟨A,P,R,h,c⟩=>
 ⟨A,_,R,h,fun x A1 v H1 p1 R1 S1 q1=>⟨A1,_,R1,p1,fun y A2 w H2 p2 R2 S2 q2=>by
  obtain⟨e,z,g,p⟩:=p2
  exact br H2 A2 σ x y v w z Q R2 (q1.step R1 S2 e) q2 g fun v' H' f=>c z A2 v' H2 H' p R2 (S1.trans S2) f⟩⟩
theorem op2t (br:Br2 K r G):∀ σ H Q,liftT K (u2t G ua ub) σ H Q->tTest (tOp r (liftQ K ua) (liftQ K ub)) σ H Q:=fun σ H Q ⟨A,P,R,h,c⟩=>
 ⟨A,_,R,h,fun x A1 v H1 p1 R1 S1 q1=>⟨A1,_,R1,p1,fun y A2 w H2 p2 R2 S2 q2=>by
  obtain⟨e,z,g,p⟩:=p2
  exact br H2 A2 σ x y v w (.bl z) _ R2 (q1.step R1 S2 e) q2 g fun v' H' s rv=>by
   cases rv
   exact⟨z,rfl,c z A2 H' p (R2.same s) (S1.trans (S2.trans (Stp.same A2 s)))⟩⟩⟩
theorem zgH {op:Operator}(ho:OpR X (binaryOp op) r)(br:Br2 K r G)(ha:PE X a (liftQ K ua))(hb:PE X b (liftQ K ub)):PE X (.BinOp a op b pos) (liftV K (u2 G ua ub)):=(zaC ho ha hb).mono (op2 br)
theorem zjV {op:Operator}(ho:OpR X (binaryOp op) r)(br:Br2F K r G)(ha:PE X a (liftQ K ua))(hb:PE X b (liftQ K ub)):PE X (.BinOp a op b pos) (liftF K (u2 G ua ub)):=(zaC ho ha hb).mono (op2F br)
theorem ziH {op:CmpOp}(ho:OpR X (compareOp op) r)(br:Br2 K r G)(ha:PE X a (liftQ K ua))(hb:PE X b (liftQ K ub))(hm:behindInMarks op b=false):PE X (.Compare a [op] [b] pos) (liftV K (u2 G ua ub)):=(zhd ho ha hb hm).mono (op2 br)
theorem zcO {op:CmpOp}(ho:OpR X (compareOp op) r)(br:Br2 K r G)(ha:PE X a (liftQ K ua))(hb:PE X b (liftQ K ub))(hm:behindInMarks op b=false):PT X (.Compare a [op] [b] pos) (liftT K (u2t G ua ub)):=(zcc ho ha hb hm).mono (op2t br)
theorem s_ix (ho:IxR X r)(br:Br2 K r G)(ha:PE X a (liftQ K ua))(hb:PE X b (liftQ K ub))(hs:PlainIx b):PE X (.Subscript a b pos) (liftV K (u2 G ua ub)):=(ziU ho ha hb hs).mono (op2 br)
end
def uAnd (t u:UT):UT:=fun A Q=>t A fun c A1=>if c=true then u A1 Q else Q false A1
def uOr (t u:UT):UT:=fun A Q=>t A fun c A1=>if c=true then Q true A1 else u A1 Q
def uNot (t:UT):UT:=fun A Q=>t A fun c A1=>Q (!c) A1
def uAndV (ua ub:UE):UE:=fun A Q=>ua A fun x A1=>∃ c,x=.bl c/\if c=true then ub A1 Q else Q (.bl false) A1
def uOrV (ua ub:UE):UE:=fun A Q=>ua A fun x A1=>∃ c,x=.bl c/\if c=true then Q (.bl true) A1 else ub A1 Q
def ptru:PV->Option Bool
 |.non=>some false
 |.bl b=>some b
 |.int i=>some (i != 0)
 |.str x=>if x.length<=1000 then some ((x.length:Int) != 0) else none
 |.tup xs=>some !xs.isEmpty
 |.lst xs=>some !xs.isEmpty
 |_=>none
def uTru (u:UE):UT:=fun A Q=>u A fun x A1=>∃ c,ptru x=some c/\Q c A1
section
variable {X:Cx}{K:Frag}{a b c:Expr}{rest:List Expr}{ua ub:UE}{t u:UT}{pos:Pos}
theorem zbO (h:PT X a (liftT K t)):PW X (.BoolOp .And [a] pos) (liftT K t):=zgP h
theorem ziD (h:PT X a (liftT K t)):PW X (.BoolOp .Or [a] pos) (liftT K t):=zne h
theorem zcL (ha:PT X a (liftT K t))(hb:PW X (.BoolOp .And (b::rest) pos) (liftT K u)):PW X (.BoolOp .And (a::b::rest) pos) (liftT K (uAnd t u)):=(zjW ha hb).mono fun σ H Q ⟨A,P,R,h,c⟩=>
 ⟨A,_,R,h,fun k A1 H1 p1 R1 S1=>by
  cases k with
  |true=>exact iteT ⟨A1,P,R1,p1,fun b A2 H2 p2 R2 S2=>c b A2 H2 p2 R2 (S1.trans S2)⟩
  | false=>exact iteF (c false A1 H1 p1 R1 S1)⟩
theorem t_or (ha:PT X a (liftT K t))(hb:PW X (.BoolOp .Or (b::rest) pos) (liftT K u)):PW X (.BoolOp .Or (a::b::rest) pos) (liftT K (uOr t u)):=(zpJ ha hb).mono fun σ H Q ⟨A,P,R,h,c⟩=>
 ⟨A,_,R,h,fun k A1 H1 p1 R1 S1=>by
  cases k with
  |true=>exact iteT (c true A1 H1 p1 R1 S1)
  | false=>exact iteF ⟨A1,P,R1,p1,fun b A2 H2 p2 R2 S2=>c b A2 H2 p2 R2 (S1.trans S2)⟩⟩
theorem zgu (ha:PT X a (liftT K t)):PT X (.UnaryOp .Not a pos) (liftT K (uNot t)):=(znh ha).mono fun σ H Q ⟨A,P,R,h,c⟩=>⟨A,_,R,h,fun k A1 H1 p1 R1 S1=>c (!k) A1 H1 p1 R1 S1⟩
theorem zdX (hK:X.K=K)(h:PE X a (liftQ K ua))(he:∀ whole,isTrue a X.env whole=(do let v <- whole;standAt a.pos;holding [v] (truthy v)):=by intro _;rfl):PT X a (liftT K (uTru ua)):=(ziP h he).mono fun σ H Q ⟨A,P,R,h,c⟩=>
 ⟨A,_,R,h,fun x A1 v H1 p1 R1 S1 r1=>by
  subst hK;obtain⟨k,e,p1⟩:=p1;refine⟨k,?_,c k A1 H1 p1 R1 S1⟩
  cases x with
  |non=>cases r1.non;exact(Option.some.inj e).symm
  |bl b=>cases r1.bl;exact(Option.some.inj e).symm
  |int b=>cases r1.int;exact(Option.some.inj e).symm
  |str b=>
   cases r1.str;have e':(if b.length<=1000 then some ((b.length:Int) != 0) else none)=some k:=e;by_cases hb:b.length<=1000
   ·rw[if_pos hb] at e';exact⟨zhv hb,(Option.some.inj e').symm⟩
   ·rw[if_neg hb] at e';cases e'
  |tup xs=>
   obtain⟨p,vs,rfl,h1,h2⟩:=r1.tup;refine .inr (.inl ⟨vs,h1,?_⟩);rw[<- Option.some.inj e];cases h2<;>rfl
  |lst xs=>
   obtain⟨p,vs,rfl,h1,h2⟩:=r1.lst R1;refine .inl ⟨vs,.inl (.inl h1),?_⟩;rw[<- Option.some.inj e];cases h2<;>rfl
  |dic _=>cases e
  | raw _=>cases e⟩
theorem zeA {op}(h:PE X a (liftV K ua)):PE X (.BoolOp op [a] pos) (liftV K ua):=znt h
theorem zhR (ha:PE X a (liftV K ua))(hb:PE X (.BoolOp .And (b::rest) pos) (liftV K ub)):PE X (.BoolOp .And (a::b::rest) pos) (liftV K (uAndV ua ub)):=(znx ha hb).mono fun σ H Q ⟨A,P,R,h,c⟩=>
 ⟨A,_,R,h,fun x A1 v H1 p1 R1 S1 r1=>by
  obtain⟨k,rfl,p1⟩:=p1;cases r1;refine⟨k,rfl,?_⟩
  cases k with
  |true=>exact iteT ⟨A1,P,R1,p1,fun b A2 v H2 p2 R2 S2 r2=>c b A2 v H2 p2 R2 (S1.trans S2) r2⟩
  | false=>exact iteF (c _ A1 _ H1 p1 R1 S1 (.bl false))⟩
theorem e_or (ha:PE X a (liftV K ua))(hb:PE X (.BoolOp .Or (b::rest) pos) (liftV K ub)):PE X (.BoolOp .Or (a::b::rest) pos) (liftV K (uOrV ua ub)):=(zpO ha hb).mono fun σ H Q ⟨A,P,R,h,c⟩=>
 ⟨A,_,R,h,fun x A1 v H1 p1 R1 S1 r1=>by
  obtain⟨k,rfl,p1⟩:=p1;cases r1;refine⟨k,rfl,?_⟩
  cases k with
  |true=>exact iteT (c _ A1 _ H1 p1 R1 S1 (.bl true))
  | false=>exact iteF ⟨A1,P,R1,p1,fun b A2 v H2 p2 R2 S2 r2=>c b A2 v H2 p2 R2 (S1.trans S2) r2⟩⟩
end
end L2
namespace L2
open PySem PySem.Spec PyProof.Rows
def put (A:AS)(i:Nat)(s:Sl):AS:={ A with rho:=A.rho.set i (some s) }
def forget (A:AS)(i:Nat):AS:={ A with rho:=A.rho.set i none }
structure UEnds where
 nx:AS->Prop
 rt:PV->AS->Prop
 rf:PV->AS->Prop
 bk:AS->Prop:=fun _=>False
 ct:AS->Prop:=fun _=>False
abbrev US:=UEnds->AS->Prop
structure EndsOk (K:Frag)(A:AS)(H:Hp)(E:UEnds)(D:Ends):Prop where
 nx:∀ A1 σ1 H1,E.nx A1->Rep K H1 σ1 A1->Stp A H A1 H1->D.nx σ1 H1
 rt:∀ r A1 σ1 v H1,E.rt r A1->Rep K H1 σ1 A1->Stp A H A1 H1->RV K (AN A1) H1 r v->D.rt v H1
 rf:∀ r A1 σ1 v H0 H1,E.rf r A1->Rep K H0 σ1 A1->Stp A H A1 H0->FrV K (AN A1) H0 H1 r v->D.rt v H1
 ro:∀(i:Nat)(a:Addr) (c:OC) A1 σ1 H1,A1.rho[i]?=some (some (.own a c))->c.Ld->E.rf c.pv (forget A1 i)->Rep K H1 σ1 A1->Stp A H A1 H1->D.rt (.ref a) H1
 bk:∀ A1 σ1 H1,E.bk A1->Rep K H1 σ1 A1->Stp A H A1 H1->D.bk σ1 H1
 ct:∀ A1 σ1 H1,E.ct A1->Rep K H1 σ1 A1->Stp A H A1 H1->D.ct σ1 H1
theorem EndsOk.step {K:Frag}{A A1:AS}{H H1:Hp}{E:UEnds}{D:Ends}(k:EndsOk K A H E D)(s:Stp A H A1 H1):EndsOk K A1 H1 E D:=
 ⟨fun A2 σ2 H2 p R t=>k.nx A2 σ2 H2 p R (s.trans t),fun r A2 σ2 v H2 p R t=>k.rt r A2 σ2 v H2 p R (s.trans t),fun r A2 σ2 v H0 H2 p R t=>k.rf r A2 σ2 v H0 H2 p R (s.trans t),fun i a c A2 σ2 H2 hi hl p R t=>k.ro i a c A2 σ2 H2 hi hl p R (s.trans t),fun A2 σ2 H2 p R t=>k.bk A2 σ2 H2 p R (s.trans t),fun A2 σ2 H2 p R t=>k.ct A2 σ2 H2 p R (s.trans t)⟩
def liftS (K:Frag)(u:US):TS:=fun D σ H=>∃ A E,Rep K H σ A/\u E A/\EndsOk K A H E D
def uNext:US:=fun E A=>E.nx A
def uSeq (u w:US):US:=fun E A=>u { E with nx:=fun A1=>w E A1 } A
def uIf (t:UT)(u w:US):US:=fun E A=>t A fun k A1=>if k=true then u E A1 else w E A1
def uSet (i:Nat)(u:UE):US:=fun E A=>u A fun r A1=>E.nx (put A1 i (.val r))
def uOwn (i:Nat)(u:UE):US:=fun E A=>u A fun r A1=>∃ c:OC,r=c.pv/\∀ p,E.nx (put A1 i (.own p c))
def uDrop (u:UE):US:=fun E A=>u A fun _ A1=>E.nx A1
def uRet (u:UE):US:=fun E A=>u A fun r A1=>E.rt r A1
def uRetF (u:UE):US:=fun E A=>u A fun r A1=>E.rf r A1
def uRetO (i:Nat):US:=fun E A=>match A.rho[i]? with
 |some (some (.own _ (.lst xs)))=>E.rf (.lst xs) (forget A i)
 |some (some (.own _ (.dic xs)))=>E.rf (.dic xs) (forget A i)
 |_=>False
section
variable {K:Frag}{H H1:Hp}{σ:St}{A:AS}{i:Nat}
theorem zpo {s:Sl}(hs:∀ a c,s≠.own a c){b:Addr}(h:AN (put A i s) b):AN A b:=by
 rcases h with h|⟨j,c,h⟩
 ·exact .inl h
 ·rcases zar h with ⟨_,z⟩|⟨_,z⟩
  ·exact absurd (Option.some.inj z).symm (hs _ _)
  ·exact .inr ⟨j,c,z⟩
theorem zkZ {s:Sl}(hs:∀ a c,s≠.own a c){b:Addr}(h:Own (put A i s).rho b):Own A.rho b:=by
 obtain⟨j,c,h⟩:=h;rcases zar h with ⟨_,z⟩|⟨_,z⟩
 ·exact absurd (Option.some.inj z).symm (hs _ _)
 ·exact⟨j,c,z⟩
theorem Rep.val (R:Rep K H σ A){r:PV}{v:V}(rv:RV K (AN A) H r v):Rep K H (σ.set i (some v)) (put A i (.val r))/\Stp A H (put A i (.val r)) H:=by
 have no:∀ a c,Sl.val r≠.own a c:=fun _ _ z=>by cases z
 have kp:KeepV K (AN A) (AN (put A i (.val r))) H H:=⟨fun _ _ h=>h,fun _ _ n h=>⟨fun z=>n (zpo no z),h⟩⟩;refine⟨⟨?_,?_,R.dom,?_,R.st,?_⟩,⟨fun _ _ h _=>h,fun b z=>.inl (zkZ no z),rfl,fun _ h=>h,rfl⟩⟩
 ·rw[List.length_set,R.len];exact(List.length_set ..).symm
 ·intro j s h;rcases zar h with ⟨rfl,z⟩|⟨n,z⟩
  ·cases z;refine⟨v,?_,rv.imp kp⟩
   have:i<A.rho.length:=by
    by_cases hl:i<A.rho.length
    ·exact hl
    ·have h':(A.rho.set i (some (Sl.val r)))[i]?=some (some (.val r)):=h;rw[List.getElem?_set,if_pos rfl,if_neg hl] at h';cases h'
   rw[List.getElem?_set,if_pos rfl,if_pos (by rw[R.len];exact this)]
  ·obtain⟨w,e1,q⟩:=R.sl j s z;refine⟨w,by rw[List.getElem?_set,if_neg n];exact e1,?_⟩
   cases s with
   |val x=>exact q.imp kp
   |own b c=>exact⟨q.1,q.2.1,q.2.2.imp kp fun _ h=>h⟩
   |peek b c=>exact⟨q.1,q.2.1,q.2.2.imp kp fun _ h=>h⟩
 ·intro i1 j1 b c1 c2 h1 h2;rcases zar h1 with ⟨_,z⟩|⟨_,z1⟩
  ·cases z
  ·rcases zar h2 with ⟨_,z⟩|⟨_,z2⟩
   ·cases z
   ·exact R.nd _ _ _ _ _ z1 z2
 ·intro i1 b c1 st h1 h2;rcases zar h1 with ⟨_,z⟩|⟨_,z1⟩
  ·cases z
  ·exact R.pk _ _ _ _ z1 h2
theorem Rep.freshC (R:Rep K H σ A){c':OC}{p:Addr}(hp:H p=none)(s:Same H H1)(hc:match c' with
  |.lst xs=>∃ vs,H1 p=some (.lst vs)/\RVs K (AN A) H xs vs
  |.dic kvs=>∃ kws:List (Key×V),H1 p=some (.dK kws)/\RKs K (AN A) H kvs (kws.map fun kv=>(kV kv.1,kv.2))
  | .ins C dx fs=>∃ ws,H1 p=some (.ins C dx ws)/\RFs K (AN A) H fs ws):Rep K H1 (σ.set i (some (.ref p))) (put A i (.own p c'))/\Stp A H (put A i (.own p c')) H1:=by
 have np:=R.new hp
 have ow:∀ b,Own (put A i (.own p c')).rho b->Own A.rho b\/b=p:=by
  rintro b ⟨j,c,h⟩;rcases zar h with ⟨_,z⟩|⟨_,z⟩
  ·cases z;exact .inr rfl
  ·exact .inl ⟨j,c,z⟩
 have S:Stp A H (put A i (.own p c')) H1:=⟨fun a o h _=>s a o h,fun b z=>(ow b z).elim .inl fun e=>.inr (by rw[e];exact hp),rfl,(Stp.same A s).dm,rfl⟩;have kp:=R.keep S
 have oc:OcAt K (AN (put A i (.own p c'))) H1 p c':=by
  cases c' with
  |lst xs=>obtain⟨vs,h1,h2⟩:=hc;exact⟨vs,h1,h2.imp kp⟩
  |dic xs=>obtain⟨vs,h1,h2⟩:=hc;exact⟨vs,h1,h2.imp kp⟩
  |ins C dx xs=>obtain⟨vs,h1,h2⟩:=hc;exact⟨vs,h1,h2.1,h2.2.imp kp⟩
 have R1:=R.same s;refine⟨⟨?_,?_,R1.dom,?_,R1.st,?_⟩,S⟩
 ·rw[List.length_set,R.len];exact(List.length_set ..).symm
 ·intro j t h;rcases zar h with ⟨rfl,z⟩|⟨n,z⟩
  ·cases z;refine⟨.ref p,?_,rfl,fun z=>np (.inl z),oc⟩
   have:i<A.rho.length:=by
    by_cases hl:i<A.rho.length
    ·exact hl
    ·have h':(A.rho.set i (some (Sl.own p c')))[i]?=some (some (.own p c')):=h;rw[List.getElem?_set,if_pos rfl,if_neg hl] at h';cases h'
   rw[List.getElem?_set,if_pos rfl,if_pos (by rw[R.len];exact this)]
  ·obtain⟨w,e1,q⟩:=R.sl j t z;refine⟨w,by rw[List.getElem?_set,if_neg n];exact e1,?_⟩
   cases t with
   |val x=>exact q.imp kp
   |own b c=>exact⟨q.1,q.2.1,q.2.2.imp kp fun o h=>s b o h⟩
   |peek b c=>exact⟨q.1,q.2.1,q.2.2.imp kp fun o h=>s b o h⟩
 ·intro i1 j1 b c1 c2 h1 h2;have notp:∀{j:Nat}{c:OC},A.rho[j]?=some (some (.own p c))->False:=fun h=>np (.inr ⟨_,_,h⟩);rcases zar h1 with ⟨e1,z1⟩|⟨_,z1⟩
  ·cases z1;rcases zar h2 with ⟨e2,z2⟩|⟨_,z2⟩
   ·exact e1.symm.trans e2
   ·exact(notp z2).elim
  ·rcases zar h2 with ⟨_,z2⟩|⟨_,z2⟩
   ·cases z2;exact(notp z1).elim
   ·exact R.nd _ _ _ _ _ z1 z2
 ·intro i1 b c1 st h1 h2;rcases zar h1 with ⟨_,z⟩|⟨_,z1⟩
  ·cases z
  ·exact R.pk _ _ _ _ z1 h2
theorem Rep.fresh (R:Rep K H σ A){c:OC}{v:V}(f:FrV K (AN A) H H1 c.pv v):∃ p,v=.ref p/\Rep K H1 (σ.set i (some v)) (put A i (.own p c))/\Stp A H (put A i (.own p c)) H1:=by
 obtain⟨p,c',e,rfl,hp,s,hc⟩:=f
 cases c' with
 |lst xs=>
  have ec:OC.lst xs=c:=by cases c<;>cases e<;>rfl
  subst ec;exact⟨p,rfl,R.freshC hp s hc⟩
 |dic xs=>
  have ec:OC.dic xs=c:=by cases c<;>cases e<;>rfl
  subst ec;exact⟨p,rfl,R.freshC hp s hc⟩
 |ins _ _ _=>exact hc.elim
theorem Rep.turn (R:Rep K H σ A){a:Addr}{xs ys:List PV}{vs:List V}(hi:A.rho[i]?=some (some (.own a (.lst xs))))(r:RVs K (AN A) H ys vs):Rep K (upd H a (.lst vs)) σ (put A i (.own a (.lst ys)))/\Stp A H (put A i (.own a (.lst ys))) (upd H a (.lst vs)):=by
 obtain⟨v,ev,rfl,nb,us,ha,_⟩:=R.sl i _ hi
 have ow:∀ b,Own (put A i (.own a (.lst ys))).rho b->Own A.rho b:=by
  rintro b ⟨j,c,h⟩;rcases zar h with ⟨_,z⟩|⟨_,z⟩
  ·cases z;exact⟨i,_,hi⟩
  ·exact⟨j,c,z⟩
 have dm:∀ b,H b≠none->upd H a (.lst vs) b≠none:=fun b h=>by
  by_cases e:b=a
  ·subst e;rw[zab];intro z;cases z
  ·rw[zad e];exact h
 have S:Stp A H (put A i (.own a (.lst ys))) (upd H a (.lst vs)):=⟨fun b o h m=>by
  rw[zad fun e=>m (.inl ⟨i,_,by rw[e];exact hi⟩)];exact h,fun b z=>.inl (ow b z),rfl,dm,rfl⟩
 have kp:=R.keep S;refine⟨⟨?_,?_,fun b h=>dm b (R.dom b h),?_,?_,?_⟩,S⟩
 ·rw[R.len];exact(List.length_set ..).symm
 ·intro j t h;rcases zar h with ⟨rfl,z⟩|⟨n,z⟩
  ·cases z;exact⟨_,ev,rfl,nb,vs,zab,r.imp kp⟩
  ·obtain⟨w,e1,q⟩:=R.sl j t z;refine⟨w,e1,?_⟩
   cases t with
   |val x=>exact q.imp kp
   |own b c=>
    have nab:b≠a:=fun e=>n (by subst e;exact R.nd _ _ _ _ _ hi z);exact⟨q.1,q.2.1,q.2.2.imp kp fun o h=>by rw[zad nab];exact h⟩
   |peek b c=>
    have nab:b≠a:=fun e=>nb (by subst e;exact q.2.1);exact⟨q.1,q.2.1,q.2.2.imp kp fun o h=>by rw[zad nab];exact h⟩
 ·intro i1 j1 b c1 c2 h1 h2;rcases zar h1 with ⟨e1,z1⟩|⟨_,z1⟩
  ·cases z1;rcases zar h2 with ⟨e2,z2⟩|⟨_,z2⟩
   ·exact e1.symm.trans e2
   ·exact e1.symm.trans (R.nd _ _ _ _ _ hi z2)
  ·rcases zar h2 with ⟨e2,z2⟩|⟨_,z2⟩
   ·cases z2;exact(R.nd _ _ _ _ _ z1 hi).trans e2
   ·exact R.nd _ _ _ _ _ z1 z2
 ·intro st h;obtain⟨h1,h2,h3⟩:=R.st st h;have nd:a≠st.d:=fun e=>nb (by rw[e];exact h1);refine⟨h1,h2.upd nd (fun ps z=>by rw[ha] at z;cases z),?_⟩
  exact h3.keepF fun o u h3=>by
   rw[zad fun e=>by rw[e,ha] at h3;cases h3];exact h3
 ·intro i1 b c1 st h1 h2;rcases zar h1 with ⟨_,z⟩|⟨_,z1⟩
  ·cases z
  ·exact R.pk _ _ _ _ z1 h2
end
end L2
namespace L2
open PySem PySem.Spec PyProof.Rows
section
variable {X:Cx}{K:Frag}{st:Stmt}{rest sa sb:List Stmt}{u w:US}{e c:Expr}{ue:UE}{t:UT}{pos:Pos}
theorem sn:PSs X [] (liftS K uNext):=pss_nil.mono fun D σ H ⟨A,E,R,h,k⟩=>k.nx A σ H h R (Stp.refl A H)
theorem sc (h1:PS X st (liftS K u))(h2:PSs X rest (liftS K w)):PSs X (st::rest) (liftS K (uSeq u w)):=(zan h1 h2).mono fun D σ H ⟨A,E,R,h,k⟩=>
 ⟨A,{ E with nx:=fun A1=>w E A1 },R,h,⟨fun A1 σ1 H1 p R1 S1=>⟨A1,E,R1,p,k.step S1⟩,k.rt,k.rf,k.ro,k.bk,k.ct⟩⟩
theorem s1 (h1:PS X st (liftS K u)):PSs X [st] (liftS K u):=zaU h1
theorem s_if (hc:PT X c (liftT K t))(ha:PSs X sa (liftS K u))(hb:PSs X sb (liftS K w)):PS X (.If c sa sb pos) (liftS K (uIf t u w)):=(ziQ hc ha hb).mono fun D σ H ⟨A,E,R,h,k⟩=>
 ⟨A,_,R,h,fun b A1 H1 p R1 S1=>by
  cases b with
  |true=>exact iteT ⟨A1,E,R1,p,k.step S1⟩
  | false=>exact iteF ⟨A1,E,R1,p,k.step S1⟩⟩
theorem zam {i:Nat}{x:Str}{pos':Pos}(hN:X.N.Nodup)(he:PE X e (liftV K ue))(hi:X.N[i]?=some x:=by rfl)(hx:Loc X.env.scope x:=by first|exact Or.inl rfl|exact Or.inr rfl)(hs:swapsWith e (some (.Name x pos')) pos.line X.env=pure false:=by rfl)
  (hf:X.fn x=true\/X.env.scope.names.lookup x=some .local:=by first|exact .inl rfl|exact .inr rfl|assumption):PS X (.Assign [.Name x pos'] e pos) (liftS K (uSet i ue)):=(zba hN hi hx he hs hf).mono fun D σ H ⟨A,E,R,h,k⟩=>
 ⟨A,_,R,h,fun r A1 v H1 p R1 S1 rv=>k.nx _ _ H1 p (R1.val rv).1 (S1.trans (R1.val rv).2)⟩
theorem zaQ {i:Nat}{x:Str}{pos':Pos}(hN:X.N.Nodup)(he:PE X e (liftF K ue))(hi:X.N[i]?=some x:=by rfl)(hx:Loc X.env.scope x:=by first|exact Or.inl rfl|exact Or.inr rfl)(hs:swapsWith e (some (.Name x pos')) pos.line X.env=pure false:=by rfl)
  (hf:X.fn x=true\/X.env.scope.names.lookup x=some .local:=by first|exact .inl rfl|exact .inr rfl|assumption):PS X (.Assign [.Name x pos'] e pos) (liftS K (uOwn i ue)):=(zba hN hi hx he hs hf).mono fun D σ H ⟨A,E,R,h,k⟩=>
 ⟨A,_,R,h,fun r A1 v H0 H1 p R1 S1 f=>by
  obtain⟨c,rfl,p⟩:=p;obtain⟨q,rfl,R2,S2⟩:=R1.fresh (i:=i) f
  exact k.nx _ _ H1 (p q) R2 (S1.trans S2)⟩
theorem zax (he:PE X e (liftV K ue))(hs:swapsWith e none pos.line X.env=pure false:=by rfl):PS X (.Expr e pos) (liftS K (uDrop ue)):=(zgS he hs).mono fun D σ H ⟨A,E,R,h,k⟩=>
 ⟨A,_,R,h,fun r A1 v H1 p R1 S1 rv=>k.nx _ _ H1 p R1 S1⟩
theorem zak (he:PE X e (liftV K ue)):PS X (.Return (some e) pos) (liftS K (uRet ue)):=(zcr he).mono fun D σ H ⟨A,E,R,h,k⟩=>
 ⟨A,_,R,h,fun r A1 v H1 p R1 S1 rv=>k.rt r A1 σ v H1 p R1 S1 rv⟩
theorem zjU (he:PE X e (liftF K ue)):PS X (.Return (some e) pos) (liftS K (uRetF ue)):=(zcr he).mono fun D σ H ⟨A,E,R,h,k⟩=>
 ⟨A,_,R,h,fun r A1 v H0 H1 p R1 S1 f=>k.rf r A1 σ v H0 H1 p R1 S1 f⟩
theorem zmT {i:Nat}{x:Str}{pos':Pos}(hN:X.N[i]?=some x:=by rfl)(hv:Vis X.env.scope x:=by first|exact Or.inl rfl|exact Or.inr (Or.inl rfl)|exact Or.inr (Or.inr rfl))(hd:(x==("__debug__":Str))=false:=by decide)
  (hcd:(x==("__classdict__":Str))=false:=by decide):PS X (.Return (some (.Name x pos')) pos) (liftS K (uRetO i)):=(zcr (zaM hN hv hd hcd)).mono fun D σ H ⟨A,E,R,h,k⟩=>by
 unfold uRetO at h
 split at h
 ·rename_i a cc hx;obtain⟨v,e,rfl,_⟩:=R.sl i _ hx;exact⟨_,e,k.ro i a (.lst cc) A σ H hx trivial h R (Stp.refl A H)⟩
 ·rename_i a cc hx;obtain⟨v,e,rfl,_⟩:=R.sl i _ hx;exact⟨_,e,k.ro i a (.dic cc) A σ H hx trivial h R (Stp.refl A H)⟩
 ·exact h.elim
end
end L2
namespace L2
open PySem PySem.Spec PyProof.Rows
abbrev UI:=AS->(List PV->(AS->Prop)->AS->Prop)->Prop
abbrev UG:=PV->AS->(AS->Prop)->Prop
abbrev UGs:=List PV->AS->(AS->Prop)->Prop
def ButS (S:Option SSt)(H H1:Hp):Prop:=∀ b o,H b=some o->(¬ ∃ st,S=some st/\st.d=b)->H1 b=some o
structure ItOk (K:Frag)(A:AS)(H:Hp)(J:It)(xs:List PV)(C:AS->Prop):Prop where
 go:∀ σ2 A2 H2,Rep K H2 σ2 A2->Stp A H A2 H2->C A2->∀ i x,xs[i]?=some x->J.go i H2/\∀ v H',J.yld i H2 v H'->Same H2 H'/\RV K (AN A2) H' x v
 stop:∀ σ2 A2 H2,Rep K H2 σ2 A2->Stp A H A2 H2->C A2->J.stop xs.length H2
 cm:∀ H2,ButS A.S H H2->(∀ i x,xs[i]?=some x->J.go i H2/\∀ v H',J.yld i H2 v H'->Same H2 H'/\RV K (fun a=>AN A a\/H a=none) H' x v)/\J.stop xs.length H2
def liftI (K:Frag)(u:UI):TI:=fun σ H R=>∃ A P,Rep K H σ A/\u A P/\∀ xs C A1 J H1,P xs C A1->Rep K H1 σ A1->Stp A H A1 H1->ItOk K A1 H1 J xs C->R J H1
def liftG (K:Frag)(g:UG):TG:=fun v σ H Q=>∃ x A P,Rep K H σ A/\RV K (AN A) H x v/\g x A P/\∀ A1 σ1,P A1->Rep K H σ1 A1->Stp A H A1 H->Q σ1 H
def liftGs (K:Frag)(g:UGs):TGs:=fun vs σ H Q=>∃ xs A P,Rep K H σ A/\RVs K (AN A) H xs vs/\g xs A P/\∀ A1 σ1,P A1->Rep K H σ1 A1->Stp A H A1 H->Q σ1 H
theorem PG.mono {X:Cx}{e:Expr}{t t':TG}(h:PG X e t)(f:∀ v σ H Q,t' v σ H Q->t v σ H Q):PG X e t':=fun pins s σ H v u Q I r w=>h pins s σ H v u Q I r (f _ _ _ _ w)
theorem PGs.mono {X:Cx}{e:List Expr}{t t':TGs}(h:PGs X e t)(f:∀ v σ H Q,t' v σ H Q->t v σ H Q):PGs X e t':=fun pins s σ H v u Q I r w=>h pins s σ H v u Q I r (f _ _ _ _ w)
def gN (i:Nat):UG:=fun x A Q=>Q (put A i (.val x))
def gT (n:Nat)(g:UGs):UG:=fun x A Q=>∃ xs,x=.tup xs/\xs.length=n/\g xs A Q
def gs0:UGs:=fun xs A Q=>xs=[]/\Q A
def gsC (g:UG)(gs:UGs):UGs:=fun xs A Q=>∃ x r,xs=x::r/\g x A fun A1=>gs r A1 Q
section
variable {X:Cx}{K:Frag}{e tg:Expr}{es:List Expr}{g:UG}{gs:UGs}{pos:Pos}
theorem g_n {i:Nat}{x:Str}(hN:X.N.Nodup)(hi:X.N[i]?=some x:=by rfl)(hx:Loc X.env.scope x:=by first|exact Or.inl rfl|exact Or.inr rfl)(hf:X.fn x=true\/X.env.scope.names.lookup x=some .local:=by first|exact .inl rfl|exact .inr rfl|assumption):PG X (.Name x pos) (liftG K (gN i)):=
 (zhc hN hi hx hf).mono fun v σ H Q ⟨x,A,P,R,rv,h,c⟩=>c _ _ h (R.val rv).1 (R.val rv).2
theorem g_0:PGs X [] (liftGs K gs0):=pgs_nil.mono fun v σ H Q ⟨xs,A,P,R,rv,⟨e,h⟩,c⟩=>by
 subst e;cases rv;exact⟨rfl,c A σ h R (Stp.refl A H)⟩
theorem g_c (h1:PG X e (liftG K g))(h2:PGs X es (liftGs K gs))(hs:(assignEach (e::es) X.env).map (·.2)=assign e X.env::(assignEach es X.env).map (·.2):=by rfl):PGs X (e::es) (liftGs K (gsC g gs)):=
 (ziT h1 h2 hs).mono fun v σ H Q ⟨xs,A,P,R,rv,⟨x,r,e,h⟩,c⟩=>by
  subst e
  cases rv with
  |cons r1 r2=>exact⟨_,_,rfl,x,A,_,R,r1,h,fun A1 σ1 p R1 S1=>⟨r,A1,P,R1,r2.imp (R.keep S1),p,fun A2 σ2 p2 R2 S2=>c A2 σ2 p2 R2 (S1.trans S2)⟩⟩
theorem g_t {k n:Nat}(hK:X.K=K)(hc:X.calm=true)(h:PGs X es (liftGs K gs))(hn:(assignEach es X.env).length=n:=by rfl)(hst:(assignEach es X.env).findIdx? (·.1)=none:=by rfl):PG X (.Tuple es k pos) (liftG K (gT n gs)):=by
 subst hK
 exact(znm hc h hn hst).mono fun v σ H Q ⟨x,A,P,R,rv,⟨xs,e,l,h⟩,c⟩=>by
  subst e
  cases rv with
  |tup h1 h2=>exact⟨_,_,rfl,h1,by rw[<- h2.len];exact l,xs,A,P,R,h2,h,c⟩
end
def iSeq (K:Frag)(tl:TE):TI:=fun σ H R=>tl σ H fun x H1=>(∃ a,x=.ref a/\(∃ xs,SqL K H1 a xs)/\R (Itl K a) H1)\/(∃ a,x=.ref a/\(∃ xs,SqT K H1 a xs)/\R (Itt K a) H1)\/(∃ z,x=.str z/\z.cps.all (·<128)=true/\R (Its z) H1)\/∃ a od kvs,x=.ref a/\H1 a=some (.frz od (.dK kvs))/\R (Itd a od) H1
theorem zjZ {X:Cx}{tg l:Expr}{tl:TE}(hl:PE X l tl):PI X tg l (iSeq X.K tl):=by
 intro pins s σ H R I h;refine thn (hl pins s σ H _ I h) fun v s1 ⟨x,H1,I1,r1,q1⟩=>?_;rcases q1 with ⟨a,e,⟨xs,hq⟩,q⟩|⟨a,e,⟨xs,hq⟩,q⟩|⟨z,e,ha,q⟩|⟨a,od,kvs,e,hq,q⟩
 ·subst e;cases r1;obtain⟨its,rv,p,hz⟩:=I1.list hq;refine wpAny_pyIter_list p.isList ?_;refine⟨s1.heap.objs.size,[s1.heap.objs.size],_,_,H1,rfl,I1.kept (t':=s1.toks) fun b o e=>Heap.get?_push_of_some _ e,zgr a _,⟨_,Heap.get?_push_size _ rfl,rfl,rfl⟩,fun b hb=>?_,q⟩;have e:b=s1.heap.objs.size:=by simpa using hb
  subst e;exact I1.fpOk (Nat.le_refl _) (I1.hok.fresh (Nat.le_refl _))
 ·subst e;cases r1;obtain⟨its,rv,p,hz⟩:=I1.tuple hq;refine wpAny_pyIter_tuple (show s1.heap.IsTuple a its.toArray from p) ?_;refine⟨s1.heap.objs.size,[s1.heap.objs.size],_,_,H1,rfl,I1.kept (t':=s1.toks) fun b o e=>Heap.get?_push_of_some _ e,zfL a _,⟨_,Heap.get?_push_size _ rfl,rfl,rfl⟩,fun b hb=>?_,q⟩;have e:b=s1.heap.objs.size:=by simpa using hb
  subst e;exact I1.fpOk (Nat.le_refl _) (I1.hok.fresh (Nat.le_refl _))
 ·subst e;obtain⟨t,rfl⟩:=r1;refine wpAny_pyIter_ascii ha ?_;refine⟨s1.heap.objs.size,[s1.heap.objs.size],_,_,H1,rfl,I1.kept (t':=s1.toks) fun b o e=>Heap.get?_push_of_some _ e,ziA _ z t,⟨_,Heap.get?_push_size _ rfl,rfl,rfl⟩,fun b hb=>?_,q⟩;have e:b=s1.heap.objs.size:=by simpa using hb
  subst e;exact I1.fpOk (Nat.le_refl _) (I1.hok.fresh (Nat.le_refl _))
 ·subst e;cases r1;obtain⟨e,z,n,vs,r,ob,es,ep,e',c,d,q1,q2,q3⟩:=id (I1.hok a _ hq);rw[e] at e';cases e';have hsz:es.size=vs.length:=by rw[<- q2.length];simp
  refine wpAny_pyIter_dict (knd:=mixKind X.prog X.w) (kvs:=vs) (ep:=ep) n ⟨od,es,e,c,d,q1,q2,q3⟩ ?_;refine⟨s1.heap.objs.size,[s1.heap.objs.size],_,_,H1,rfl,I1.kept (t':=s1.toks) fun b o e=>Heap.get?_push_of_some _ e,zgs a _ od es ep d,⟨_,Heap.get?_push_size _ rfl,rfl,by rw[hsz];rfl⟩,fun b hb=>?_,q⟩;have e:b=s1.heap.objs.size:=by simpa using hb
  subst e;exact I1.fpOk (Nat.le_refl _) (I1.hok.fresh (Nat.le_refl _))
def signs (z:Str):List PV:=z.cps.toList.map fun c=>PV.str ⟨#[c]⟩
def itV:PV->(List PV->Prop)->Prop
 |.lst xs,P=>P xs
 |.tup xs,P=>P xs
 |.str z,P=>z.cps.all (·<128)=true/\P (signs z)
 |.dic kvs,P=>P (kvs.map Prod.fst)
 |_,_=>False
def uIt (ue:UE):UI:=fun A P=>ue A fun x A1=>itV x fun xs=>P xs (fun _=>True) A1
def itS:Option (Option Sl)->Nat->AS->(List PV->(AS->Prop)->AS->Prop)->Prop
 |some (some (.val x)),_,A,P=>itV x fun xs=>P xs (fun _=>True) A
 |some (some (.own a (.lst xs))),i,A,P=>P xs (fun A2=>A2.rho[i]?=some (some (.own a (.lst xs)))) A
 |some (some (.peek a (.lst xs))),i,A,P=>P xs (fun A2=>A2.rho[i]?=some (some (.peek a (.lst xs)))) A
 |_,_,_,_=>False
def uItN (i:Nat):UI:=fun A P=>itS A.rho[i]? i A P
def uRng (ue:UE):UI:=fun A P=>ue A fun x A1=>∃ n:Int,x=.int n/\n<=1000000000 /\ -1000000000<=n/\P ((List.range n.toNat).map fun(k:Nat)=>PV.int k) (fun _=>True) A1
section
variable {X:Cx}{K:Frag}{e e2 tg:Expr}{pos p:Pos}{ue uf:UE}
theorem Rep.notd {A:AS}{H:Hp}{σ:St}(R:Rep K H σ A){a:Addr}(n:¬ AN A a):¬ ∃ st,A.S=some st/\st.d=a:=by
 rintro⟨st,h,rfl⟩;exact n (.inl (R.st st h).1)
theorem Rep.keepC {A:AS}{H H2:Hp}{σ:St}(R:Rep K H σ A)(b:ButS A.S H H2):KeepV K (AN A) (fun a=>AN A a\/H a=none) H H2:=by
 refine⟨fun a vs h=>?_,fun a o n h=>⟨fun z=>z.elim n (zaB h),b a o h (R.notd n)⟩⟩;rcases h with h|h
 ·refine .inl (zgO (n:=∃ st,A.S=some st/\st.d=a) (fun o e m=>b a o e m) ?_ h);rintro⟨st,h1,rfl⟩;obtain⟨kvs,e⟩:=(R.st st h1).2.1.dk;rcases h with h|⟨o,h⟩<;>(rw[e] at h;cases h)
 ·exact .inr h
theorem cm_l {A:AS}{H H2:Hp}{σ:St}{a:Addr}{xs:List PV}{vs:List V}(R:Rep K H σ A)(b:ButS A.S H H2)(h1:H2 a=some (.lst vs))(h2:RVs K (AN A) H xs vs) :
  (∀ i x,xs[i]?=some x->(Itl K a).go i H2/\∀ v H',(Itl K a).yld i H2 v H'->Same H2 H'/\RV K (fun a=>AN A a\/H a=none) H' x v)/\(Itl K a).stop xs.length H2:=by
 refine⟨fun i x hx=>?_,⟨_,SqL.of h1,by rw[h2.len];exact Nat.le_refl _⟩⟩;obtain⟨v,hv,rv⟩:=h2.at hx;refine⟨⟨_,v,SqL.of h1,hv⟩,fun v' H' y=>?_⟩;obtain⟨rfl,y⟩:=y;have:=y _ (SqL.of h1);rw[hv] at this;cases this;exact⟨Same.refl _,rv.imp (R.keepC b)⟩
theorem zkg {A:AS}{H:Hp}{σ:St}{a:Addr}{xs:List PV}(R:Rep K H σ A)(h:RV K (AN A) H (.lst xs) (.ref a)):ItOk K A H (Itl K a) xs fun _=>True where
 go:=fun σ2 A2 H2 R2 S2 _ i x hx=>by
  cases h.imp (R.keep S2) with
  |lst n h1 h2=>
   obtain⟨v,hv,rv⟩:=h2.at hx;refine⟨⟨_,v,SqL.of h1,hv⟩,fun v' H' y=>?_⟩;obtain⟨rfl,y⟩:=y;have:=y _ (SqL.of h1);rw[hv] at this;cases this;exact⟨Same.refl _,rv⟩
 stop:=fun σ2 A2 H2 R2 S2 _=>by
  cases h.imp (R.keep S2) with
  |lst n h1 h2=>exact⟨_,SqL.of h1,by rw[h2.len];exact Nat.le_refl _⟩
 cm:=fun H2 b=>by
  cases h with
  |lst n h1 h2=>exact cm_l R b (b a _ h1 (R.notd n)) h2
theorem zke {A:AS}{H:Hp}{σ:St}{a:Addr}{xs:List PV}(R:Rep K H σ A)(h:RV K (AN A) H (.tup xs) (.ref a)):ItOk K A H (Itt K a) xs fun _=>True where
 go:=fun σ2 A2 H2 R2 S2 _ i x hx=>by
  cases h.imp (R.keep S2) with
  |tup h1 h2=>
   obtain⟨v,hv,rv⟩:=h2.at hx;refine⟨⟨_,v,h1,hv⟩,fun v' H' y=>?_⟩;obtain⟨rfl,y⟩:=y;have:=y _ h1;rw[hv] at this;cases this;exact⟨Same.refl _,rv⟩
 stop:=fun σ2 A2 H2 R2 S2 _=>by
  cases h.imp (R.keep S2) with
  |tup h1 h2=>exact⟨_,h1,by rw[h2.len];exact Nat.le_refl _⟩
 cm:=fun H2 b=>by
  cases h with
  |tup h1 h2=>
   have h1':=(R.keepC b).t _ _ h1;refine⟨fun i x hx=>?_,⟨_,h1',by rw[h2.len];exact Nat.le_refl _⟩⟩;obtain⟨v,hv,rv⟩:=h2.at hx;refine⟨⟨_,v,h1',hv⟩,fun v' H' y=>?_⟩;obtain⟨rfl,y⟩:=y;have:=y _ h1';rw[hv] at this;cases this;exact⟨Same.refl _,rv.imp (R.keepC b)⟩
theorem zog {A:AS}{H:Hp}{σ:St}{a:Addr}{xs:List PV}{i:Nat}{s:Sl}(R:Rep K H σ A)(hA:A.rho[i]?=some (some s))(hs:s=.own a (.lst xs)\/s=.peek a (.lst xs)):ItOk K A H (Itl K a) xs fun A2=>A2.rho[i]?=some (some s) where
 go:=fun σ2 A2 H2 R2 S2 hc i x hx=>by
  obtain⟨w,_,o⟩:=R2.sl _ _ hc;have o':OcAt K (AN A2) H2 a (.lst xs):=by rcases hs with rfl|rfl<;>exact o.2.2
  obtain⟨vs,h1,h2⟩:=o';obtain⟨v,hv,rv⟩:=h2.at hx;refine⟨⟨_,v,SqL.of h1,hv⟩,fun v' H' y=>?_⟩;obtain⟨rfl,y⟩:=y;have:=y _ (SqL.of h1);rw[hv] at this;cases this;exact⟨Same.refl _,rv⟩
 stop:=fun σ2 A2 H2 R2 S2 hc=>by
  obtain⟨w,_,o⟩:=R2.sl _ _ hc;have o':OcAt K (AN A2) H2 a (.lst xs):=by rcases hs with rfl|rfl<;>exact o.2.2
  obtain⟨vs,h1,h2⟩:=o';exact⟨_,SqL.of h1,by rw[h2.len];exact Nat.le_refl _⟩
 cm:=fun H2 b=>by
  obtain⟨w,_,o⟩:=R.sl _ _ hA
  have nd:¬ ∃ st,A.S=some st/\st.d=a:=by
   rintro⟨st,h,rfl⟩;rcases hs with rfl|rfl
   ·exact o.2.1 (R.st st h).1
   ·exact R.pk _ _ _ st hA h rfl
  have o':OcAt K (AN A) H a (.lst xs):=by rcases hs with rfl|rfl<;>exact o.2.2
  obtain⟨vs,h1,h2⟩:=o';exact cm_l R b (b a _ h1 nd) h2
theorem RKs.at {N:Addr->Prop}{H:Hp}{xs:List (PV×PV)}{vs:List (V×V)}(h:RKs K N H xs vs){i:Nat}{x:PV}(e:(xs.map Prod.fst)[i]?=some x):∃ v,vs[i]?=some v/\RV K N H x v.1:=by
 induction vs generalizing xs i with
 |nil=>cases h;simp at e
 |cons v vs ih=>
  cases h with
  |cons h1 h2 h3=>
   cases i with
   |zero=>simp at e;subst e;exact⟨_,rfl,h1⟩
   |succ i=>exact ih h3 (by simpa using e)
theorem RKs.len0 {N:Addr->Prop}{H:Hp}{xs:List (PV×PV)}{vs:List (V×V)}(h:RKs K N H xs vs):xs.length=vs.length:=by
 induction vs generalizing xs with
 |nil=>cases h;rfl
 |cons v vs ih=>cases h with|cons h1 h2 h3=>rw[List.length_cons,List.length_cons,ih h3]
theorem zdR {N:Addr->Prop}{H2:Hp}{a:Addr}{od:Obj}{kvs:List (PV×PV)}{kws:List (Key×V)}(h1:H2 a=some (.frz od (.dK kws)))(h2:RKs K N H2 kvs (kws.map fun kv=>(kV kv.1,kv.2))) :
  (∀ i x,(kvs.map Prod.fst)[i]?=some x->(Itd a od).go i H2/\∀ v H',(Itd a od).yld i H2 v H'->Same H2 H'/\RV K N H' x v)/\(Itd a od).stop (kvs.map Prod.fst).length H2:=by
 have l:=h2.len0;rw[List.length_map] at l;refine⟨fun i x hx=>?_,⟨kws,h1,by rw[List.length_map,l];exact Nat.le_refl _⟩⟩;obtain⟨v,hv,rv⟩:=h2.at hx;rw[List.getElem?_map] at hv;obtain⟨kv,hkv,rfl⟩:=Option.map_eq_some_iff.mp hv;refine⟨⟨kws,kv,h1,hkv⟩,fun v' H' y=>?_⟩;obtain⟨rfl,y⟩:=y;obtain⟨kv',e1,rfl⟩:=y kws h1;rw[hkv] at e1;cases e1;exact⟨Same.refl _,rv⟩
theorem zkh {A:AS}{H:Hp}{σ:St}{a:Addr}{od:Obj}{kvs:List (PV×PV)}{kws:List (Key×V)}(R:Rep K H σ A)(n:¬ AN A a)(h1:H a=some (.frz od (.dK kws)))(h2:RKs K (AN A) H kvs (kws.map fun kv=>(kV kv.1,kv.2))):ItOk K A H (Itd a od) (kvs.map Prod.fst) fun _=>True where
 go:=fun σ2 A2 H2 R2 S2 _ i x hx=>by
  have k:=R.keep S2;exact(zdR (k.l _ _ n h1).2 (h2.imp k)).1 i x hx
 stop:=fun σ2 A2 H2 R2 S2 _=>by
  have k:=R.keep S2;exact(zdR (k.l _ _ n h1).2 (h2.imp k)).2
 cm:=fun H2 b=>by
  have k:=R.keepC b;have z:=zdR (N:=fun a=>AN A a\/H a=none) (k.l _ _ n h1).2 (h2.imp k);exact z
theorem zkf {A:AS}{H:Hp}{z:Str}:ItOk K A H (Its z) (signs z) fun _=>True where
 go:=fun σ2 A2 H2 R2 S2 _ i x hx=>by
  unfold signs at hx;rw[List.getElem?_map] at hx;obtain⟨c,hc,rfl⟩:=Option.map_eq_some_iff.mp hx;have hc':z.cps[i]?=some c:=by simpa using hc
  refine⟨?_,?_⟩
  ·show i<z.cps.size;rcases Nat.lt_or_ge i z.cps.size with q|q
   ·exact q
   ·rw[Array.getElem?_eq_none q] at hc';cases hc'
  ·rintro v H' ⟨rfl,c',h1,rfl⟩;rw[hc'] at h1;cases h1;exact⟨Same.refl _,.str _⟩
 stop:=fun σ2 A2 H2 R2 S2 _=>by
  show z.cps.size<=_;unfold signs;simp
 cm:=fun H2 b=>⟨fun i x hx=>by
  unfold signs at hx;rw[List.getElem?_map] at hx;obtain⟨c,hc,rfl⟩:=Option.map_eq_some_iff.mp hx;have hc':z.cps[i]?=some c:=by simpa using hc
  refine⟨?_,?_⟩
  ·show i<z.cps.size;rcases Nat.lt_or_ge i z.cps.size with q|q
   ·exact q
   ·rw[Array.getElem?_eq_none q] at hc';cases hc'
  ·rintro v H' ⟨rfl,c',h1,rfl⟩;rw[hc'] at h1;cases h1
   exact⟨Same.refl _,.str _⟩,by
  show z.cps.size<=_;unfold signs
  simp⟩
theorem zoe {A:AS}{H:Hp}{lo:Int}{n:Nat}:ItOk K A H (Itr lo n) ((List.range n).map fun(k:Nat)=>PV.int (lo+k)) fun _=>True where
 go:=fun σ2 A2 H2 R2 S2 _ i x hx=>by
  rw[List.getElem?_map] at hx;obtain⟨c,hc,rfl⟩:=Option.map_eq_some_iff.mp hx;obtain⟨hi,e⟩:=List.getElem?_eq_some_iff.mp hc;have e':i=c:=by simpa using e
  subst e';refine⟨(by simpa using hi:i<n),?_⟩;rintro v H' ⟨rfl,rfl⟩;exact⟨Same.refl _,.int _⟩
 stop:=fun σ2 A2 H2 R2 S2 _=>by
  show n<=_;simp
 cm:=fun H2 b=>⟨fun i x hx=>by
  rw[List.getElem?_map] at hx;obtain⟨c,hc,rfl⟩:=Option.map_eq_some_iff.mp hx;obtain⟨hi,e⟩:=List.getElem?_eq_some_iff.mp hc;have e':i=c:=by simpa using e
  subst e';refine⟨(by simpa using hi:i<n),?_⟩;rintro v H' ⟨rfl,rfl⟩
  exact⟨Same.refl _,.int _⟩,by
  show n<=_
  simp⟩
theorem iv (hK:X.K=K)(h:PE X e (liftV K ue)):PI X tg e (liftI K (uIt ue)):=by
 subst hK;refine(zjZ h).mono fun σ H Q ⟨A,P,R,h,c⟩=>⟨A,_,R,h,fun x A1 v H1 p R1 S1 rv=>?_⟩
 cases x with
 |lst xs=>cases rv with|lst n h1 h2=>exact .inl ⟨_,rfl,⟨_,SqL.of h1⟩,c xs _ A1 _ H1 p R1 S1 (zkg R1 (.lst n h1 h2))⟩
 |tup xs=>cases rv with|tup h1 h2=>exact .inr (.inl ⟨_,rfl,⟨_,h1⟩,c xs _ A1 _ H1 p R1 S1 (zke R1 (.tup h1 h2))⟩)
 |str z=>cases rv;exact .inr (.inr (.inl ⟨z,rfl,p.1,c _ _ A1 _ H1 p.2 R1 S1 zkf⟩))
 |dic kvs=>
  cases rv with
  |dic n hD h2=>
   obtain⟨kws,od,h1,rfl⟩:=hD;exact .inr (.inr (.inr ⟨_,od,kws,rfl,h1,c _ _ A1 _ H1 p R1 S1 (zkh R1 n h1 h2)⟩))
 |_=>exact p.elim
theorem i_n (hK:X.K=K)(i:Nat){x:Str}(hN:X.N[i]?=some x:=by rfl)(hv:Vis X.env.scope x:=by first|exact Or.inl rfl|exact Or.inr (Or.inl rfl)|exact Or.inr (Or.inr rfl))(hd:(x==("__debug__":Str))=false:=by decide)
  (hcd:(x==("__classdict__":Str))=false:=by decide):PI X tg (.Name x pos) (liftI K (uItN i)):=by
 subst hK;refine(zjZ (zaM hN hv hd hcd)).mono fun σ H Q ⟨A,P,R,h,c⟩=>?_;have h':itS A.rho[i]? i A P:=h
 cases hx:A.rho[i]? with
 |none=>rw[hx] at h';exact h'.elim
 |some o=>
  cases o with
  |none=>rw[hx] at h';exact h'.elim
  |some s=>
   rw[hx] at h'
   cases s with
   |val x=>
    obtain⟨v,e,q⟩:=R.sl i _ hx
    cases x with
    |lst xs=>cases (show RV X.K (AN A) H (.lst xs) v from q) with|lst n h1 h2=>exact⟨_,e,.inl ⟨_,rfl,⟨_,SqL.of h1⟩,c xs _ A _ H h' R (Stp.refl A H) (zkg R (.lst n h1 h2))⟩⟩
    |tup xs=>cases (show RV X.K (AN A) H (.tup xs) v from q) with|tup h1 h2=>exact⟨_,e,.inr (.inl ⟨_,rfl,⟨_,h1⟩,c xs _ A _ H h' R (Stp.refl A H) (zke R (.tup h1 h2))⟩)⟩
    |str z=>
     cases (show RV X.K (AN A) H (.str z) v from q);exact⟨_,e,.inr (.inr (.inl ⟨z,rfl,h'.1,c _ _ A _ H h'.2 R (Stp.refl A H) zkf⟩))⟩
    |dic kvs=>
     cases (show RV X.K (AN A) H (.dic kvs) v from q) with
     |dic n hD h2=>
      obtain⟨kws,od,h1,rfl⟩:=hD;exact⟨_,e,.inr (.inr (.inr ⟨_,od,kws,rfl,h1,c _ _ A _ H h' R (Stp.refl A H) (zkh R n h1 h2)⟩))⟩
    |_=>exact h'.elim
   |own a oc=>
    cases oc with
    |lst xs=>
     obtain⟨v,e,rfl,_,vs,h1,h2⟩:=R.sl i _ hx;exact⟨_,e,.inl ⟨_,rfl,⟨_,SqL.of h1⟩,c xs _ A _ H h' R (Stp.refl A H) (zog R hx (.inl rfl))⟩⟩
    |dic _=>exact h'.elim
    |ins _ _ _=>exact h'.elim
   |peek a oc=>
    cases oc with
    |lst xs=>
     obtain⟨v,e,rfl,_,vs,h1,h2⟩:=R.sl i _ hx;exact⟨_,e,.inl ⟨_,rfl,⟨_,SqL.of h1⟩,c xs _ A _ H h' R (Stp.refl A H) (zog R hx (.inr rfl))⟩⟩
    |dic _=>exact h'.elim
    |ins _ _ _=>exact h'.elim
theorem zga (hg:Gl X "range")(hm:X.mg "range"=none)(h:PE X e (liftV K ue))(hs:starEach [e] X.env=[(false,eval e X.env)]:=by rfl):PI X tg (.Call (.Name "range" p) [e] [] pos) (liftI K (uRng ue)):=by
 refine(zee hg hm (zaf h pa_nil hs) hs).mono fun σ H Q ⟨A,P,R,h,c⟩=>⟨A,_,R,h,fun x A1 v H1 q R1 S1 rv=>?_⟩;obtain⟨n,rfl,n1,n2,q⟩:=q;cases rv;refine⟨n,rfl,by omega,by omega,c _ _ A1 _ H1 q R1 S1 ?_⟩;have:=zoe (K:=K) (A:=A1) (H:=H1) (lo:=0) (n:=n.toNat);simpa using this
end
def forB (xs:List PV)(C:AS->Prop)(A1:AS)(g:UG)(ub:US)(E:UEnds):Prop:=∃ I:List PV->AS->Prop,I [] A1/\(∀ d A2,I d A2->C A2) /\
 (∀ d x r A2,xs=d++x::r->I d A2->g x A2 fun A3=>ub { E with nx:=I (d++[x]),ct:=I (d++[x]),bk:=E.nx } A3)/\∀ A2,I xs A2->E.nx A2
def uFor (ui:UI)(g:UG)(ub:US):US:=fun E A=>ui A fun xs C A1=>forB xs C A1 g ub E
def uWhile (t:UT)(ub:US):US:=fun E A=>∃(I:AS->Prop)(μ:AS->Nat),I A/\∀ A1,I A1->t A1 fun k A2=>if k=true then ub { E with nx:=fun A3=>I A3/\μ A3<μ A1,ct:=fun A3=>I A3/\μ A3<μ A1,bk:=E.nx } A2 else E.nx A2
section
variable {X:Cx}{K:Frag}{tg iter c:Expr}{body:List Stmt}{ui:UI}{g:UG}{ub:US}{t:UT}{pos:Pos}
theorem zbC (hp:PassesOwn (model X.prog X.w) X.A X.env X.xe)(hc:X.calm=true)(hi:PI X tg iter (liftI K ui))(hg:PG X tg (liftG K g))(hb:PSs X body (liftS K ub))(hs:∀ x,foldedSetIterable iter X.env x=pure x:=by intro _;rfl) :
  PS X (.For tg iter body [] pos) (liftS K (uFor ui g ub)):=by
 refine(zjY hp hc hi hg hb hs).mono fun D σ H ⟨A,E,R,h,k⟩=>⟨A,_,R,h,fun xs C A1 J H1 p R1 S1 ok=>?_⟩;obtain⟨I,i0,iC,step,fin⟩:=p;refine⟨fun i m σ' H'=>m=xs.length-i/\i<=xs.length/\∃ A2,I (xs.take i) A2/\Rep K H' σ' A2/\Stp A1 H1 A2 H',⟨_,rfl,Nat.zero_le _,A1,i0,R1,Stp.refl A1 H1⟩,?_⟩;rintro i m σ' H' ⟨rfl,hi,A2,hI,R2,S2⟩;by_cases hlt:i<xs.length
 ·obtain⟨go,yld⟩:=ok.go σ' A2 H' R2 S2 (iC _ _ hI) i xs[i] (List.getElem?_eq_getElem hlt);refine .inr ⟨go,fun σ'' H''=>∃ A3,I (xs.take (i+1)) A3/\Rep K H'' σ'' A3/\Stp A1 H1 A3 H'',fun σ'' H'' q=>⟨xs.length-(i+1),by omega,rfl,hlt,q⟩,fun v H3 y=>?_⟩;obtain⟨s,rv⟩:=yld v H3 y;have eT:xs.take (i+1)=xs.take i++[xs[i]]:=by rw[List.take_add_one,List.getElem?_eq_getElem hlt];rfl
  refine⟨xs[i],A2,_,R2.same s,rv,step (xs.take i) xs[i] (xs.drop (i+1)) A2 (by simp) hI,fun A3 σ3 p3 R3 S3=>⟨A3,_,R3,p3,?_⟩⟩;have S03:Stp A1 H1 A3 H3:=S2.trans ((Stp.same A2 s).trans S3);have k3:=k.step (S1.trans S03);exact⟨fun A4 σ4 H4 q R4 S4=>⟨A4,by rw[eT];exact q,R4,S03.trans S4⟩,k3.rt,k3.rf,k3.ro,k3.nx,fun A4 σ4 H4 q R4 S4=>⟨A4,by rw[eT];exact q,R4,S03.trans S4⟩⟩
 ·have e:i=xs.length:=by omega
  subst e;rw[List.take_length] at hI;exact .inl ⟨ok.stop σ' A2 H' R2 S2 (iC _ _ hI),k.nx A2 σ' H' (fin A2 hI) R2 (S1.trans S2)⟩
theorem zgG (hp:PassesOwn (model X.prog X.w) X.A X.env X.xe)(hc:PT X c (liftT K t))(hb:PSs X body (liftS K ub)):PS X (.While c body [] pos) (liftS K (uWhile t ub)):=by
 refine(zfw hp hc hb).mono fun D σ H ⟨A,E,R,h,k⟩=>?_;obtain⟨I,μ,i0,step⟩:=h;refine⟨fun m σ' H'=>∃ A1,m=μ A1/\I A1/\Rep K H' σ' A1/\Stp A H A1 H',⟨_,A,rfl,i0,R,Stp.refl A H⟩,?_⟩;rintro m σ' H' ⟨A1,rfl,hI,R1,S1⟩;refine⟨A1,_,R1,step A1 hI,fun b A2 H2 p R2 S2=>?_⟩;have k2:=k.step (S1.trans S2)
 cases b with
 |true=>
  refine⟨fun σ'' H''=>∃ A3,(I A3/\μ A3<μ A1)/\Rep K H'' σ'' A3/\Stp A H A3 H'',?_,?_⟩
  ·rintro σ'' H'' ⟨A3,⟨q1,q2⟩,R3,S3⟩;exact⟨μ A3,q2,A3,rfl,q1,R3,S3⟩
  ·exact⟨A2,_,R2,p,⟨fun A4 σ4 H4 q R4 S4=>⟨A4,q,R4,S1.trans (S2.trans S4)⟩,k2.rt,k2.rf,k2.ro,k2.nx,fun A4 σ4 H4 q R4 S4=>⟨A4,q,R4,S1.trans (S2.trans S4)⟩⟩⟩
 |false=>exact k2.nx A2 σ' H2 p R2 (Stp.refl A2 H2)
end
end L2
namespace L2
open PySem PySem.Spec PyProof.Rows
def Sl.cap:Sl->Sl
 |.own a c=>.peek a c
 |s=>s
def caps (ix:List Nat)(rho:List (Option Sl)):List (Option Sl):=ix.map fun j=>((rho[j]?).join).map Sl.cap
def inn (k:Nat)(ix:List Nat)(rho:List (Option Sl)):List (Option Sl):=List.replicate k none++caps ix rho
def Kp (k:Nat)(ix:List Nat)(rho:List (Option Sl))(A:AS):Prop:=A.rho.length=k+ix.length/\A.rho.drop k=caps ix rho
def uYes:UT:=fun A Q=>Q true A
def compB (k:Nat)(ix:List Nat)(xs:List PV)(A1:AS)(g:UG)(t:UT)(ue:UE)(Q:PV->AS->Prop):Prop:=xs.length<=1000000/\∃ I:List PV->List PV->Option SSt->Prop,I [] [] A1.S /\
 (∀ B d x r ys S,xs=d++x::r->I d ys S->g x ⟨B,inn k ix A1.rho,S⟩ fun A2=>t A2 fun b A3=>if b=true then ue A3 fun y A4=>Kp k ix A1.rho A4/\I (d++[x]) (ys++[y]) A4.S else Kp k ix A1.rho A3/\I (d++[x]) ys A3.S) /\
 ∀ ys S,I xs ys S->Q (.lst ys) { A1 with S:=S }
def uComp (k:Nat)(ix:List Nat)(ui:UI)(g:UG)(t:UT)(ue:UE):UE:=fun A Q=>ui A fun xs _ A1=>compB k ix xs A1 g t ue Q
def erase (H:Hp)(p:Addr):Hp:=fun b=>if b=p then none else H b
theorem zaL (H:Hp)(p:Addr):erase H p p=none:=if_pos rfl
theorem zai {H:Hp}{p b:Addr}(h:b≠p):erase H p b=H b:=if_neg h
section
variable {K:Frag}{H H1 H2:Hp}{σ:St}{A:AS}
theorem ButS.stp (R:Rep K H σ A){S:Option SSt}(hs:S.map SSt.d=A.S.map SSt.d)(hst:∀ st,S=some st->StAt H1 st.d st.a st.n st.b/\ScrF K H1 st.a)(b:ButS A.S H H1):Rep K H1 σ { A with S:=S }/\Stp A H { A with S:=S } H1:=by
 have dm:∀ a,H a≠none->H1 a≠none:=fun a h=>by
  by_cases e:∃ st,A.S=some st/\st.d=a
  ·obtain⟨st',h1,h2⟩:=sd_d hs.symm e;obtain⟨kvs,q⟩:=(hst st' h1).1.dk;rw[<- h2];exact zaB q
  ·cases q:H a with
   |none=>exact absurd q h
   |some o=>exact zaB (b a o q e)
 have S0:Stp A H { A with S:=S } H1:=⟨fun a o h m=>b a o h fun z=>m (.inr z),fun _ h=>.inl h,rfl,dm,hs⟩;have kp:=R.keep S0;refine⟨⟨R.len,fun i s h=>?_,fun a h=>dm a (R.dom a h),R.nd,fun st h=>?_,fun i a c st h1 h2=>?_⟩,S0⟩
 ·obtain⟨v,e,q⟩:=R.sl i s h;refine⟨v,e,?_⟩
  cases s with
  |val x=>exact q.imp kp
  |own a c=>exact⟨q.1,q.2.1,q.2.2.imp kp fun o h=>b a o h fun⟨st,z1,z2⟩=>q.2.1 (by rw[<- z2];exact(R.st st z1).1)⟩
  |peek a c=>exact⟨q.1,q.2.1,q.2.2.imp kp fun o h2=>b a o h2 fun⟨st,z1,z2⟩=>R.pk i a c st h z1 z2.symm⟩
 ·obtain⟨st',h1,h2⟩:=sd_d hs ⟨st,h,rfl⟩;exact⟨by show A.B st.d;rw[<- h2];exact(R.st st' h1).1,(hst st h).1,(hst st h).2⟩
 ·obtain⟨st',h3,h4⟩:=sd_d hs ⟨st,h2,rfl⟩;rw[<- h4];exact R.pk i a c st' h1 h3
theorem Rep.drop (R:Rep K H σ A){k:Nat}{cs:List (Option Sl)}(e:A.rho.drop k=cs)(hk:k<=A.rho.length):Rep K H σ { A with rho:=List.replicate k none++cs }/\∀ a,Own (List.replicate k none++cs) a->Own A.rho a:=by
 have at':∀ i s,(List.replicate k none++cs)[i]?=some (some s)->A.rho[i]?=some (some s):=fun i s h=>by
  by_cases hi:i<k
  ·rw[List.getElem?_append_left (by simpa using hi),List.getElem?_replicate,if_pos hi] at h;cases h
  ·rw[List.getElem?_append_right (by simpa using (Nat.le_of_not_lt hi)),List.length_replicate,<- e,List.getElem?_drop] at h;rwa [show k+(i-k)=i by omega] at h
 have ow:∀ a,Own (List.replicate k none++cs) a->Own A.rho a:=fun a ⟨i,c,h⟩=>⟨i,c,at' i _ h⟩;have kp:KeepV K (AN A) (AN { A with rho:=List.replicate k none++cs }) H H:=⟨fun _ _ h=>h,fun _ _ n h=>⟨fun z=>n (z.elim .inl fun y=>.inr (ow _ y)),h⟩⟩;refine⟨⟨?_,fun i s h=>?_,R.dom,fun i j a c c' h1 h2=>R.nd i j a c c' (at' i _ h1) (at' j _ h2),R.st,fun i a c st h1 h2=>R.pk i a c st (at' i _ h1) h2⟩,ow⟩
 ·rw[R.len];show _=(List.replicate k none++cs).length;rw[<- e,List.length_append,List.length_replicate,List.length_drop];omega
 ·obtain⟨v,e1,q⟩:=R.sl i s (at' i s h);refine⟨v,e1,?_⟩
  cases s with
  |val x=>exact q.imp kp
  |own b c=>exact⟨q.1,q.2.1,q.2.2.imp kp fun _ h=>h⟩
  |peek b c=>exact⟨q.1,q.2.1,q.2.2.imp kp fun _ h=>h⟩
theorem zpe {ix:List Nat}{rho:List (Option Sl)}{i:Nat}{s:Sl}(h:(caps ix rho)[i]?=some (some s)):∃ j t,ix[i]?=some j/\rho[j]?=some (some t)/\s=t.cap:=by
 unfold caps at h;rw[List.getElem?_map] at h;obtain⟨j,hj,e⟩:=Option.map_eq_some_iff.mp h;obtain⟨t,ht,e2⟩:=Option.map_eq_some_iff.mp e;refine⟨j,t,hj,?_,e2.symm⟩
 cases q:rho[j]? with
 |none=>rw[q] at ht;cases ht
 |some o=>rw[q] at ht;exact congrArg some ht
theorem zfB {k:Nat}{ix:List Nat}{rho:List (Option Sl)}{i:Nat}{s:Sl}(h:(inn k ix rho)[i]?=some (some s)):∃ i' j t,i=k+i'/\ix[i']?=some j/\rho[j]?=some (some t)/\s=t.cap:=by
 unfold inn at h;by_cases hi:i<k
 ·rw[List.getElem?_append_left (by simpa using hi),List.getElem?_replicate,if_pos hi] at h;cases h
 ·rw[List.getElem?_append_right (by simpa using (Nat.le_of_not_lt hi)),List.length_replicate] at h;obtain⟨j,t,h1,h2,h3⟩:=zpe h;exact⟨i-k,j,t,by omega,h1,h2,h3⟩
theorem zbD {k:Nat}{ix:List Nat}{rho:List (Option Sl)}{a:Addr}:¬ Own (inn k ix rho) a:=by
 rintro⟨i,c,h⟩;obtain⟨_,_,t,_,_,_,e⟩:=zfB h;cases t<;>cases e
theorem OcAt.some {N:Addr->Prop}{a:Addr}{c:OC}(h:OcAt K N H a c):H a≠none:=by
 cases c with
 |lst xs=>obtain⟨vs,h,_⟩:=h;exact zaB h
 |dic xs=>obtain⟨vs,h,_⟩:=h;exact zaB h
 |ins _ _ xs=>obtain⟨vs,h,_⟩:=h;exact zaB h
theorem zeO {a acc:Addr}{us vs ws:List V}(ha:H acc=Option.some (.lst vs))(h:SqT K H a us):SqT K (upd H acc (.lst ws)) a us:=by
 rcases h with h|h
 ·refine .inl ?_;rcases h with h|⟨o,h⟩
  ·exact .inl (by rw[zad fun e=>by rw[e,ha] at h;cases h];exact h)
  ·exact .inr ⟨o,by rw[zad fun e=>by rw[e,ha] at h;cases h];exact h⟩
 ·exact .inr h
theorem Rep.updB (R:Rep K H σ A){acc:Addr}{vs ws:List V}(ha:H acc=Option.some (.lst vs))(hB:A.B acc)(hp:∀(i:Nat)(a:Addr)(c:OC),A.rho[i]?=Option.some (Option.some (Sl.peek a c))->a≠acc):Rep K (upd H acc (.lst ws)) σ A:=by
 have kp:KeepV K (AN A) (AN A) H (upd H acc (.lst ws)):=⟨fun a us h=>zeO ha h,fun a o n h=>⟨n,by rw[zad fun e=>n (by rw[e];exact .inl hB)];exact h⟩⟩;refine⟨R.len,fun i s h=>?_,fun a h=>?_,R.nd,fun st h=>?_,R.pk⟩
 ·obtain⟨v,e,q⟩:=R.sl i s h;refine⟨v,e,?_⟩
  cases s with
  |val x=>exact q.imp kp
  |own a c=>exact⟨q.1,q.2.1,q.2.2.imp kp fun o h=>by rw[zad fun e=>q.2.1 (by rw[e];exact hB)];exact h⟩
  |peek a c=>exact⟨q.1,q.2.1,q.2.2.imp kp fun o h2=>by rw[zad (hp i a c h)];exact h2⟩
 ·by_cases e:a=acc
  ·rw[e,zab];intro z;cases z
  ·rw[zad e];exact R.dom a h
 ·obtain⟨h1,h2,h3⟩:=R.st st h;refine⟨h1,h2.upd (fun e=>?_) (fun ps z=>by rw[ha] at z;cases z),h3.keepF fun o u z=>?_⟩
  ·obtain⟨kvs,q⟩:=h2.dk;rw[<- e,ha] at q;cases q
  ·rw[zad fun e=>by rw[e,ha] at z;cases z];exact z
theorem Rep.inner (R:Rep K H σ A){acc:Addr}(hacc:H acc=none)(k:Nat)(ix:List Nat):Rep K (upd H acc (.lst [])) (subSt k ix σ) ⟨fun b=>AN A b\/b=acc,inn k ix A.rho,A.S⟩:=by
 have s:Same H (upd H acc (.lst [])):=zal hacc _;have R1:=R.same s;have na:∀ a o,H a=some o->a≠acc:=fun a o h=>zag h hacc
 have kp:KeepV K (AN A) (AN ⟨fun b=>AN A b\/b=acc,inn k ix A.rho,A.S⟩) H (upd H acc (.lst [])):=⟨(zaz (K:=K) (N:=AN A) s).t,fun a o n h=>⟨fun z=>by
  rcases z with (z|z)|z
  ·exact n z
  ·exact na a o h z
  ·exact zbD z,s a o h⟩⟩
 refine⟨?_,fun i t h=>?_,fun a h=>?_,fun i j a c c' h _=>absurd ⟨i,c,h⟩ zbD,fun st h=>?_,fun i a c st h1 h2=>?_⟩
 ·show(subSt k ix σ).length=(inn k ix A.rho).length;unfold subSt inn caps;rw[List.length_append,List.length_append,List.length_map,List.length_map,List.length_replicate,List.length_replicate]
 ·obtain⟨i',j,t',rfl,h1,h2,rfl⟩:=zfB h;obtain⟨v,e,q⟩:=R.sl j _ h2;refine⟨v,?_,?_⟩
  ·unfold subSt;rw[List.getElem?_append_right (by simp),List.length_replicate,List.getElem?_map,show k+i'-k=i' by omega,h1];show some ((σ[j]?).join)=_;rw[e];rfl
  ·cases t' with
   |val x=>exact q.imp kp
   |own a c=>exact⟨q.1,.inl (.inr ⟨j,c,h2⟩),q.2.2.imp kp fun o=>s a o⟩
   |peek a c=>exact⟨q.1,.inl (.inl q.2.1),q.2.2.imp kp fun o=>s a o⟩
 ·rcases h with h|h
  ·rcases h with h|h
   ·exact R1.dom a h
   ·rcases R.own_at h with ⟨z,e⟩|⟨z,e⟩|⟨_,_,z,e⟩
    ·exact zaB (s _ _ e)
    ·exact zaB (s _ _ e)
    ·exact zaB (s _ _ e)
  ·subst h;rw[zab];intro z;cases z
 ·obtain⟨h1,h2,h3⟩:=R1.st st h;exact⟨.inl (.inl h1),h2,h3⟩
 ·obtain⟨i',j,t,rfl,h3,h4,e⟩:=zfB h1
  cases t with
  |val x=>cases e
  |own b c=>cases e;intro z;obtain⟨_,_,_,nb,_⟩:=R.sl j _ h4;exact nb (by rw[z];exact(R.st st h2).1)
  |peek b c=>cases e;exact R.pk j _ _ st h4 h2
theorem zdd {J:It}{g:UG}{t:UT}{ue:UE}{k:Nat}{ix:List Nat}{acc:Addr}{xs:List PV}{C:AS->Prop}{Q:VK}{I:List PV->List PV->Option SSt->Prop}{fin:PV->AS->Prop}(R:Rep K H σ A)(ok:ItOk K A H J xs C)(hacc:H acc=none)
  (few:xs.length<=1000000)(i0:I [] [] A.S)
  (step:∀ B d x r ys S,xs=d++x::r->I d ys S->g x ⟨B,inn k ix A.rho,S⟩ fun A2=>t A2 fun b A3=>if b=true then ue A3 fun y A4=>Kp k ix A.rho A4/\I (d++[x]) (ys++[y]) A4.S else Kp k ix A.rho A3/\I (d++[x]) ys A3.S)
  (hfin:∀ ys S,I xs ys S->fin (.lst ys) { A with S:=S })(q:∀ zs A1 v H0 H1,fin (.lst zs) A1->Rep K H0 σ A1->Stp A H A1 H0->FrV K (AN A1) H0 H1 (.lst zs) v->Q v H1) :
  bComp J (liftG K g) (liftT K t) (liftV K ue) acc Q (subSt k ix σ) (upd H acc (.lst [])):=by
 let B:Addr->Prop:=fun b=>AN A b\/b=acc
 have na:∀ a o,H a=some o->a≠acc:=fun a o h=>zag h hacc
 refine zfp xs.length (fun i σ' H'=>∃ ys vs S,I (xs.take i) ys S/\Rep K H' σ' ⟨B,inn k ix A.rho,S⟩/\H' acc=some (.lst vs)/\RVs K B H' ys vs/\vs.length<=i/\ButS A.S H H'/\S.map SSt.d=A.S.map SSt.d)
  ⟨[],[],A.S,i0,R.inner hacc k ix,zab,.nil,Nat.le_refl _,fun b o h _=>by rw[zad (na b o h)];exact h,rfl⟩ ?_ ?_
 ·rintro σ' H' ⟨ys,vs,S,hI,R',ha,rs,_,bs,hs⟩;rw[List.take_length] at hI;refine⟨(ok.cm H' bs).2,?_⟩
  -- the heap without the new list
  have be:ButS A.S H (erase H' acc):=fun b o h n=>by rw[zai (na b o h)];exact bs b o h n
  have ste:∀ st,S=some st->StAt (erase H' acc) st.d st.a st.n st.b/\ScrF K (erase H' acc) st.a:=fun st h=>by
   obtain⟨_,h1,h2⟩:=R'.st st h;obtain⟨st',e1,e2⟩:=sd_d hs ⟨st,h,rfl⟩;obtain⟨kvs,hd⟩:=(R.st st' e1).2.1.dk;have nd:st.d≠acc:=by rw[<- e2];exact na _ _ hd
   refine⟨?_,?_⟩
   ·obtain⟨t,l,w,e,r⟩:=h1.ex
    exact⟨⟨t,l,w,by rw[zai nd];exact e,r⟩,fun T o z=>⟨by
     rw[zai fun y=>by
      have q:=(h1.tb T o z).1;rw[y,ha] at q
      cases q]
     exact(h1.tb T o z).1,(h1.tb T o z).2⟩⟩
   ·exact h2.keepF fun o u h2=>by
     rw[zai fun e=>by rw[e,ha] at h2;cases h2];exact h2
  obtain⟨R3,S3⟩:=ButS.stp R hs ste be;refine q ys _ _ (erase H' acc) H' (hfin ys S hI) R3 S3 ⟨acc,.lst ys,rfl,rfl,zaL _ _,fun b o h=>?_,vs,ha,rs.imp ⟨fun a vs h=>?_,fun a o n h=>?_⟩⟩
  ·by_cases e:b=acc
   ·subst e;rw[zaL] at h;cases h
   ·rw[zai e] at h;exact h
  ·rcases h with h|h
   ·refine .inl ?_;rcases h with h|⟨o,h⟩
    ·exact .inl (by rw[zai fun e=>by rw[e,ha] at h;cases h];exact h)
    ·exact .inr ⟨o,by rw[zai fun e=>by rw[e,ha] at h;cases h];exact h⟩
   ·exact .inr h
  ·refine⟨fun z=>n (.inl z),?_⟩;rw[zai fun e=>n (.inr e)];exact h
 ·rintro i σ' H' hi ⟨ys,vs,S,hI,R',ha,rs,lv,bs,hs⟩;obtain⟨go,yld⟩:=(ok.cm H' bs).1 i xs[i] (List.getElem?_eq_getElem hi);refine⟨go,fun v H3 y=>?_⟩;obtain⟨s,rv⟩:=yld v H3 y;have eT:xs.take (i+1)=xs.take i++[xs[i]]:=by rw[List.take_add_one,List.getElem?_eq_getElem hi];rfl
  have R3:=R'.same s;have an0:∀ a,AN ⟨B,inn k ix A.rho,S⟩ a->AN A a\/H a=none:=fun a z=>z.elim (fun y=>y.imp id fun e=>by rw[e];exact hacc) fun z=>absurd z zbD;have rv':RV K (AN ⟨B,inn k ix A.rho,S⟩) H3 xs[i] v:=rv.imp ⟨fun _ _ h=>h,fun a o n h=>⟨fun z=>n (an0 a z),h⟩⟩
  have notMt:¬ Mt ⟨B,inn k ix A.rho,S⟩ acc:=by
   rintro(z|⟨st,z1,z2⟩)
   ·exact zbD z
   ·obtain⟨kvs,e⟩:=(R'.st st z1).2.1.dk;rw[z2,ha] at e;cases e
  have bsx:∀{H6:Hp}{A4:AS},Stp ⟨B,inn k ix A.rho,S⟩ H' A4 H6->ButS A.S H H6:=fun Sx b o h n=>Sx.fr b o (bs b o h n) fun m=>m.elim zbD fun z=>n (sd_d hs z);refine⟨xs[i],⟨B,inn k ix A.rho,S⟩,_,R3,rv',step B (xs.take i) xs[i] (xs.drop (i+1)) ys S (by simp) hI,fun A2 σ3 p2 Ra Sa=>⟨A2,_,Ra,p2,fun b A3 H5 p3 Rb Sb=>?_⟩⟩;have Sy:=(Stp.same ⟨B,inn k ix A.rho,S⟩ s).trans (Sa.trans Sb)
  cases b with
  |true=>
   refine iteT ⟨A3,_,Rb,p3,fun y A4 w H6 p4 Rc Sc ry=>?_⟩;obtain⟨⟨kl,kd⟩,hI4⟩:=p4;have Sx:=Sy.trans Sc;have ha6:H6 acc=some (.lst vs):=Sx.fr acc _ ha notMt;refine⟨vs,ha6,Nat.lt_of_le_of_lt lv (Nat.lt_of_lt_of_le hi (Nat.le_trans few (by decide))),ys++[y],vs++[w],A4.S,by rw[eT];exact hI4,?_,zab,?_,?_,?_,Sx.sd.trans hs⟩
   ·have Rd:=(Rc.drop kd (by omega)).1;have eB:A4.B=B:=Sx.b;rw[eB] at Rd
    exact Rd.updB ha6 (.inr rfl) fun j a c h=>by
     obtain⟨i',j',t',_,_,h4,e⟩:=zfB h;obtain⟨_,_,q⟩:=R.sl j' _ h4
     have:H a≠none:=by
      cases t' with
      |val x=>cases e
      |own a' c'=>cases e;exact q.2.2.some
      |peek a' c'=>cases e;exact q.2.2.some
     exact fun z=>this (by rw[z];exact hacc)
   ·have kp:KeepV K B B H' (upd H6 acc (.lst (vs++[w]))):=⟨fun a us h=>?_,fun a o n h=>⟨n,?_⟩⟩;have kq:KeepV K (AN A4) B H6 (upd H6 acc (.lst (vs++[w]))):=⟨fun a us h=>?_,fun a o n h=>⟨fun z=>n (.inl (by rw[Sx.b];exact z)),?_⟩⟩
    ·exact(rs.imp kp).app (.cons (ry.imp kq) .nil)
    ·exact zeO ha6 h
    ·rw[zad fun e=>n (by rw[e];exact .inl (by rw[Sx.b];exact .inr rfl))];exact h
    ·exact zeO ha6 (((R'.keep Sx).t) a us h)
    ·have na':a≠acc:=fun e=>n (.inr e);rw[zad na'];exact Sx.fr a o h fun m=>m.elim zbD fun⟨st,z1,z2⟩=>n (by rw[<- z2];exact(R'.st st z1).1)
   ·rw[List.length_append];exact Nat.succ_le_succ lv
   ·intro b o h n;rw[zad (na b o h)];exact bsx Sx b o h n
  |false=>
   obtain⟨⟨kl,kd⟩,hI4⟩:=p3;have ha5:H5 acc=some (.lst vs):=Sy.fr acc _ ha notMt;have Rd:=(Rb.drop kd (by omega)).1;have eB:A3.B=B:=Sy.b;rw[eB] at Rd;refine iteF ⟨ys,vs,A3.S,by rw[eT];exact hI4,Rd,ha5,rs.imp ⟨(R'.keep Sy).t,fun a o n h=>⟨n,Sy.fr a o h fun m=>m.elim zbD fun⟨st,z1,z2⟩=>n (by rw[<- z2];exact(R'.st st z1).1)⟩⟩,Nat.le_succ_of_le lv,bsx Sy,Sy.sd.trans hs⟩
end
section
variable {X:Cx}{K:Frag}{elt tg iter:Expr}{ifs:List Expr}{pos:Pos}{sc:Scope}{cl:List (Str×Addr)}{N:List Str}{k:Nat}{ix:List Nat}{g:UG}{t:UT}{ue:UE}{ui:UI}
theorem zcu (S:CompScope X sc cl N k ix)(hc:X.calm=true)(hp:PI X tg iter (liftI K ui))(hg:∀ C fp s H,PG (cxComp X N sc cl C fp s H) tg (liftG K g))(hi:∀ C fp s H,PIf (cxComp X N sc cl C fp s H) ifs (liftT K t))(he:∀ C fp s H,PE (cxComp X N sc cl C fp s H) elt (liftV K ue))
  (hs:∀ x,foldedSetIterable iter X.env x=pure x:=by intro _;rfl):PE X (.ListComp elt [⟨tg,iter,ifs,0⟩] sc pos) (liftF K (uComp k ix ui g t ue)):=(zkX S hc hp hg hi he hs).mono fun σ H Q ⟨A,P,R,h,c⟩=>
 ⟨A,_,R,h,fun xs C A1 J H1 p R1 S1 ok acc hacc=>by
  obtain⟨few,I,i0,step,fin⟩:=p
  exact zdd R1 ok hacc few i0 step fin fun r A2 v H0 H2 q R2 S2 f=>c (.lst r) A2 v H0 H2 q R2 (S1.trans S2) f⟩
theorem zca {i:Nat}{y:Str}{py spos:Pos}(hN:X.N.Nodup)(S:CompScope X sc cl N k ix)(hc:X.calm=true)(hp:PI X tg iter (liftI K ui))(hg:∀ C fp s H,PG (cxComp X N sc cl C fp s H) tg (liftG K g))(hi:∀ C fp s H,PIf (cxComp X N sc cl C fp s H) ifs (liftT K t))(he:∀ C fp s H,PE (cxComp X N sc cl C fp s H) elt (liftV K ue))
  (hi':X.N[i]?=some y:=by rfl)(hy:X.env.scope.names.lookup y=some .local:=by rfl)(hsw:swapsWith (.ListComp elt [⟨tg,iter,ifs,0⟩] sc pos) (some (.Name y py)) spos.line X.env=pure true:=by rfl)
  (hs:∀ x,foldedSetIterable iter X.env x=pure x:=by intro _;rfl):PS X (.Assign [.Name y py] (.ListComp elt [⟨tg,iter,ifs,0⟩] sc pos) spos) (liftS K (uSet i (uComp k ix ui g t ue))):=(zgT hN hi' hy hsw S hc hp hg hi he hs).mono fun D σ H ⟨A,E,R,h,c⟩=>
 ⟨A,_,R,h,fun xs C A1 J H1 p R1 S1 ok acc hacc=>by
  obtain⟨few,I,i0,step,fin⟩:=p
  exact zdd (fin:=fun r A1=>E.nx (put A1 i (.val r))) R1 ok hacc few i0 step fin fun r A2 v H0 H2 q R2 S2 f=>by
   have rv:=(f.rvL fun _=>R2.new);have R3:=R2.same f.same
   exact c.nx _ _ H2 q (R3.val rv).1 (S1.trans (S2.trans ((Stp.same A2 f.same).trans (R3.val rv).2)))⟩
theorem zkS {i:Nat}{y:Str}{py spos:Pos}(hN:X.N.Nodup)(S:CompScope X sc cl N k ix)(hc:X.calm=true)(hp:PI X tg iter (liftI K ui))(hg:∀ C fp s H,PG (cxComp X N sc cl C fp s H) tg (liftG K g))(hi:∀ C fp s H,PIf (cxComp X N sc cl C fp s H) ifs (liftT K t))(he:∀ C fp s H,PE (cxComp X N sc cl C fp s H) elt (liftV K ue))
  (hi':X.N[i]?=some y:=by rfl)(hy:X.env.scope.names.lookup y=some .local:=by rfl)(hsw:swapsWith (.ListComp elt [⟨tg,iter,ifs,0⟩] sc pos) (some (.Name y py)) spos.line X.env=pure true:=by rfl)
  (hs:∀ x,foldedSetIterable iter X.env x=pure x:=by intro _;rfl):PS X (.Assign [.Name y py] (.ListComp elt [⟨tg,iter,ifs,0⟩] sc pos) spos) (liftS K (uOwn i (uComp k ix ui g t ue))):=(zgT hN hi' hy hsw S hc hp hg hi he hs).mono fun D σ H ⟨A,E,R,h,c⟩=>
 ⟨A,_,R,h,fun xs C A1 J H1 p R1 S1 ok acc hacc=>by
  obtain⟨few,I,i0,step,fin⟩:=p
  exact zdd (fin:=fun r A2=>∃ c:OC,r=c.pv/\∀ p,E.nx (put A2 i (.own p c))) R1 ok hacc few i0 step fin fun r A2 v H0 H2 q R2 S2 f=>by
   obtain⟨c',e',q⟩:=q;rw[e'] at f;obtain⟨p',rfl,R3,S3⟩:=R2.fresh (i:=i) f
   exact c.nx _ _ H2 (q p') R3 (S1.trans (S2.trans S3))⟩
theorem f_0:PIf X [] (liftT K uYes):=fun pins s σ H Q I h=>zno pins s σ H Q I (by
 obtain⟨A,P,R,h,c⟩:=h
 exact c true A H h R (Stp.refl A H))
theorem f_1 {c:Expr}(h:PT X c (liftT K t)):PIf X [c] (liftT K t):=znn h
end
section
variable {k:Nat}{ix:List Nat}{g:UG}{t:UT}{ue:UE}{xs:List PV}{A1:AS}{Q:PV->AS->Prop}
theorem zfI (F:PV->PV)(few:xs.length<=1000000)(each:∀ B x,x∈xs->∀ R:PV->AS->Prop,(∀ A4,Kp k ix A1.rho A4->A4.S=A1.S->R (F x) A4)->g x ⟨B,inn k ix A1.rho,A1.S⟩ fun A2=>ue A2 R)(fin:Q (.lst (xs.map F)) A1):compB k ix xs A1 g uYes ue Q:=by
 refine⟨few,fun d ys S=>ys=d.map F/\S=A1.S,⟨rfl,rfl⟩,?_,?_⟩
 ·rintro B d x r ys S e ⟨rfl,rfl⟩;have q:=each B x (by rw[e];simp) (fun y A4=>Kp k ix A1.rho A4/\d.map F++[y]=(d++[x]).map F/\A4.S=A1.S) fun A4 k1 s1=>⟨k1,by simp,s1⟩
  have e2:(fun A2=>ue A2 fun y A4=>Kp k ix A1.rho A4/\d.map F++[y]=(d++[x]).map F/\A4.S=A1.S)=fun A2=>uYes A2 fun b A3=>if b=true then ue A3 fun y A4=>Kp k ix A1.rho A4/\d.map F++[y]=(d++[x]).map F/\A4.S=A1.S else Kp k ix A1.rho A3/\d.map F=(d++[x]).map F/\A3.S=A1.S:=by
   funext A2
   unfold uYes;dsimp only;rw[if_pos rfl]
  rw[e2] at q;exact q
 ·rintro ys S ⟨rfl,rfl⟩;exact fin
end
end L2
namespace L2
open PySem PySem.Spec PyProof.Rows
abbrev Rel:=List PV->PV->Prop
abbrev Tr:=List PV->SSt->(PV->SSt->Prop)->Prop
def PostV (fr:Bool)(K:Frag)(B:Addr->Prop)(H:Hp)(r:PV)(v:V)(H':Hp):Prop:=if fr=true then ∃ H0,Same H H0/\FrV K B H0 H' r v else Same H H'/\RV K B H' r v
def spV (K:Frag)(fr:Bool)(G:Rel):Sp:=fun vs H Q _=>∃ B xs r,(∀ a,B a->H a≠none)/\RVs K B H xs vs/\G xs r/\∀ v H',PostV fr K B H r v H'->Q v H'
def PostS (fr:Bool)(K:Frag)(B:Addr->Prop)(d:Addr)(H:Hp)(r:PV)(v:V)(H':Hp)(st:SSt):Prop:=if fr=true then ∃ H0,But d H H0/\StAt H0 st.d st.a st.n st.b/\ScrF K H0 st.a/\FrV K B H0 H' r v else But d H H'/\RV K B H' r v
def spS (K:Frag)(fr:Bool)(T:Tr):Sp:=fun vs H Q _=>∃ B xs st P,(∀ a,B a->H a≠none)/\B st.d/\StAt H st.d st.a st.n st.b/\ScrF K H st.a/\RVs K B H xs vs/\T xs st P /\
 ∀ r st' v H',P r st'->st'.d=st.d->StAt H' st'.d st'.a st'.n st'.b->ScrF K H' st'.a->PostS fr K B st.d H r v H' st'->Q v H'
def entry (B:Addr->Prop)(N:List Str)(xs:List PV)(S:Option SSt):AS:=⟨B,xs.map (fun x=>some (Sl.val x))++List.replicate (N.length-xs.length) none,S⟩
def endsV (fr:Bool)(r:PV):UEnds:=⟨fun _=>fr=false/\r=.non,fun r' _=>fr=false/\r'=r,fun r' _=>fr=true/\r'=r,fun _=>False,fun _=>False⟩
def endsS (fr:Bool)(P:PV->SSt->Prop):UEnds:=⟨fun A=>fr=false/\∃ st,A.S=some st/\P .non st,fun r A=>fr=false/\∃ st,A.S=some st/\P r st,fun r A=>fr=true/\∃ st,A.S=some st/\P r st,fun _=>False,fun _=>False⟩
section
variable {K:Frag}{H H1:Hp}{B:Addr->Prop}
theorem FrV.weak {N N':Addr->Prop}{H0 H1:Hp}{r:PV}{v:V}(f:FrV K N H0 H1 r v)(h:∀ a,N' a->N a):FrV K N' H0 H1 r v:=by
 obtain⟨p,c,e1,e2,hp,s,hc⟩:=f;have kp:KeepV K N N' H0 H0:=⟨fun _ _ h=>h,fun a o n e=>⟨fun z=>n (h a z),e⟩⟩;refine⟨p,c,e1,e2,hp,s,?_⟩
 cases c with
 |lst xs=>obtain⟨vs,h1,h2⟩:=hc;exact⟨vs,h1,h2.imp kp⟩
 |dic xs=>obtain⟨vs,h1,h2⟩:=hc;exact⟨vs,h1,h2.imp kp⟩
 |ins _ _ _=>exact hc.elim
theorem RV.weak {N N':Addr->Prop}{r:PV}{v:V}(f:RV K N H r v)(h:∀ a,N' a->N a):RV K N' H r v:=f.imp ⟨fun _ _ h=>h,fun a o n e=>⟨fun z=>n (h a z),e⟩⟩
theorem Rep.own_new {σ:St}{A:AS}{i:Nat}{a:Addr}{c:OC}(R:Rep K H σ A)(hi:A.rho[i]?=some (some (.own a c)))(hld:c.Ld):FrV K A.B (erase H a) H c.pv (.ref a):=by
 obtain⟨v,_,rfl,nb,oc⟩:=R.sl i _ hi
 have hs:Same (erase H a) H:=fun b o h=>by
  by_cases e:b=a
  ·rw[e,zaL] at h;cases h
  ·rw[zai e] at h;exact h
 have kp:KeepV K (AN A) A.B H (erase H a):=by
  refine⟨fun b vs h=>?_,fun b o n h=>⟨fun z=>n (.inl z),by rw[zai fun e=>n (by rw[e];exact .inr ⟨i,c,hi⟩)];exact h⟩⟩;rcases h with h|h
  ·have nb:b≠a:=fun e=>by
    rw[e] at h;rcases R.own_at ⟨i,c,hi⟩ with ⟨z,q⟩|⟨z,q⟩|⟨_,_,z,q⟩<;>(rcases h with h|⟨o,h⟩<;>(rw[q] at h;cases h))
   exact .inl (h.imp (fun z=>by rw[zai nb];exact z) fun⟨o,z⟩=>⟨o,by rw[zai nb];exact z⟩)
  ·exact .inr h
 refine⟨a,c,rfl,rfl,zaL _ _,hs,?_⟩
 cases c with
 |lst xs=>obtain⟨vs,h1,h2⟩:=oc;exact⟨vs,h1,h2.imp kp⟩
 |dic xs=>obtain⟨vs,h1,h2⟩:=oc;exact⟨vs,h1,h2.imp kp⟩
 |ins _ _ _=>exact hld.elim
theorem zbb {N:List Str}{xs:List PV}{S:Option SSt}{a:Addr}:¬ Own (entry B N xs S).rho a:=by
 rintro⟨i,c,h⟩;have h':(xs.map (fun x=>some (Sl.val x))++List.replicate (N.length-xs.length) none)[i]?=some (some (.own a c)):=h;by_cases hi:i<xs.length
 ·rw[List.getElem?_append_left (by simpa using hi),List.getElem?_map] at h';obtain⟨x,_,e⟩:=Option.map_eq_some_iff.mp h';cases e
 ·rw[List.getElem?_append_right (by simpa using (Nat.le_of_not_lt hi)),List.getElem?_replicate] at h'
  split at h'<;>cases h'
theorem zey {N:List Str}{xs:List PV}{vs:List V}{S:Option SSt}(dom:∀ a,B a->H a≠none)(r:RVs K B H xs vs)(hl:xs.length<=N.length)(hS:∀ st,S=some st->B st.d/\StAt H st.d st.a st.n st.b/\ScrF K H st.a):Rep K H (start N vs) (entry B N xs S):=by
 have an:∀ a,AN (entry B N xs S) a->B a:=fun a h=>h.elim id fun z=>absurd z zbb;have ll:=r.len;refine⟨?_,fun i s h=>?_,dom,fun i j a c c' h _=>absurd ⟨i,c,h⟩ zbb,hS,fun i a c st h _=>?_⟩
 ·show(start N vs).length=(xs.map (fun x=>some (Sl.val x))++List.replicate (N.length-xs.length) none).length;unfold start;rw[List.length_append,List.length_append,List.length_map,List.length_map,List.length_replicate,List.length_replicate,ll]
 ·have h':(xs.map (fun x=>some (Sl.val x))++List.replicate (N.length-xs.length) none)[i]?=some (some s):=h;by_cases hi:i<xs.length
  ·rw[List.getElem?_append_left (by simpa using hi),List.getElem?_map] at h';obtain⟨x,hx,e⟩:=Option.map_eq_some_iff.mp h';cases e;obtain⟨v,hv,rv⟩:=r.at hx;refine⟨v,?_,rv.weak an⟩;unfold start;rw[List.getElem?_append_left (by rw[List.length_map];omega),List.getElem?_map,hv];rfl
  ·rw[List.getElem?_append_right (by simpa using (Nat.le_of_not_lt hi)),List.getElem?_replicate] at h'
   split at h'<;>cases h'
 ·have h':(xs.map (fun x=>some (Sl.val x))++List.replicate (N.length-xs.length) none)[i]?=some (some (.peek a c)):=h;by_cases hi:i<xs.length
  ·rw[List.getElem?_append_left (by simpa using hi),List.getElem?_map] at h';obtain⟨x,_,e⟩:=Option.map_eq_some_iff.mp h';cases e
  ·rw[List.getElem?_append_right (by simpa using (Nat.le_of_not_lt hi)),List.getElem?_replicate] at h'
   split at h'<;>cases h'
theorem zcJ {A A1:AS}(e:A1.B=A.B):∀ a,A.B a->AN A1 a:=fun a h=>.inl (by rw[e];exact h)
end
section
variable {P:Program}{w:World}{K:Frag}{mg:Str->Option Value}{base:Heap}
theorem Fun.okV {x qual:Str}{st:Stmt}{f:Addr}{fd:FuncData}{N ps:List Str}{k:Nat}{fr:Bool}{G:Rel}(F:Fun K x qual st f fd)(S:FnScope N ps (defScope st))(len:∀ xs r,G xs r->xs.length=ps.length)(lN:ps.length<=N.length)
  (hbody:∀(cdv:Value)(A:Around)(outer:List Env)(s:Shared)(H:Hp)(E:XK),Room k (A.deeper (envOfC qual (defScope st) s.heap.objs.size f cdv)) ->
   ∃ u,PSs (cxOf CX0 P w K mg base N qual (defScope st) f cdv A outer s H E).nox (defBody st) (liftS K u)/\∀ B xs r,G xs r->u (endsV fr r) (entry B N xs none)):FnOk P w K mg base CX0 (k+1) f fd ps (spV K fr G):=by
 refine F.ok S (fun vs H Q E h=>?_) fun cdv A outer s H vs Q E hr h=>?_
 ·obtain⟨B,xs,r,_,rv,g,_⟩:=h;rw[<- rv.len];exact len xs r g
 obtain⟨B,xs,r,dom,rv,g,fin⟩:=h;obtain⟨u,hu,q⟩:=hbody cdv A outer s H E hr;have R0:=zey (K:=K) (S:=none) (N:=N) dom rv (by rw[len xs r g];exact lN) fun st h=>by cases h
 have same:∀{A1:AS}{H1:Hp},Stp (entry B N xs none) H A1 H1->Same H H1:=fun S1 b o h=>S1.fr b o h fun m=>m.elim zbb fun⟨st,z,_⟩=>by cases z
 refine⟨_,hu,entry B N xs none,endsV fr r,R0,q B xs r g,?_,?_,?_,?_,?_,?_⟩
 ·rintro A1 σ1 H1 ⟨rfl,rfl⟩ R1 S1;exact fin _ _ ⟨same S1,.non⟩
 ·rintro r' A1 σ1 v H1 ⟨rfl,rfl⟩ R1 S1 rv';exact fin _ _ ⟨same S1,rv'.weak (zcJ S1.b)⟩
 ·rintro r' A1 σ1 v H0 H1 ⟨rfl,rfl⟩ R1 S1 f;exact fin _ _ ⟨H0,same S1,f.weak (zcJ S1.b)⟩
 ·rintro i a c A1 σ1 H1 hi hld e R1 S1;obtain⟨rfl,e'⟩:=e;subst e';have f:=R1.own_new hi hld
  have sm:Same H (erase H1 a):=fun b o h=>by
   have nb:b≠a:=fun z=>by
    rcases S1.ow a ⟨i,c,hi⟩ with y|y
    ·exact zbb y
    ·rw[z,y] at h;cases h
   rw[zai nb];exact same S1 b o h
  have hB:∀ a,B a->A1.B a:=fun a h=>by rw[S1.b];exact h
  exact fin _ _ ⟨_,sm,f.weak hB⟩
 ·rintro A1 σ1 H1 h;exact h.elim
 ·rintro A1 σ1 H1 h;exact h.elim
theorem Fun.okS {x qual:Str}{st:Stmt}{f:Addr}{fd:FuncData}{N ps:List Str}{k:Nat}{fr:Bool}{T:Tr}(F:Fun K x qual st f fd)(S:FnScope N ps (defScope st))(len:∀ xs st P,T xs st P->xs.length=ps.length)(lN:ps.length<=N.length)
  (hbody:∀(cdv:Value)(A:Around)(outer:List Env)(s:Shared)(H:Hp)(E:XK),Room k (A.deeper (envOfC qual (defScope st) s.heap.objs.size f cdv)) ->
   ∃ u,PSs (cxOf CX0 P w K mg base N qual (defScope st) f cdv A outer s H E).nox (defBody st) (liftS K u)/\∀ B xs st P,T xs st P->u (endsS fr P) (entry B N xs (some st))):FnOk P w K mg base CX0 (k+1) f fd ps (spS K fr T):=by
 refine F.ok S (fun vs H Q E h=>?_) fun cdv A outer s H vs Q E hr h=>?_
 ·obtain⟨B,xs,st,P,_,_,_,_,rv,g,_⟩:=h;rw[<- rv.len];exact len xs st P g
 obtain⟨B,xs,st,P,dom,hd,h1,h2,rv,g,fin⟩:=h;obtain⟨u,hu,q⟩:=hbody cdv A outer s H E hr;have R0:=zey (K:=K) (S:=some st) (N:=N) dom rv (by rw[len xs st P g];exact lN) fun st' h=>by cases h;exact⟨hd,h1,h2⟩
 have same:∀{A1:AS}{H1:Hp},Stp (entry B N xs (some st)) H A1 H1->But st.d H H1:=fun S1 b o h n=>S1.fr b o h fun m=>m.elim zbb fun⟨st',z,e⟩=>n (by cases z;exact e.symm)
 have sdd:∀{A1:AS}{H1:Hp}{st':SSt},Stp (entry B N xs (some st)) H A1 H1->A1.S=some st'->st'.d=st.d:=fun S1 e=>by
  have:=S1.sd;rw[e] at this;exact Option.some.inj this
 refine⟨_,hu,entry B N xs (some st),endsS fr P,R0,q B xs st P g,?_,?_,?_,?_,?_,?_⟩
 ·rintro A1 σ1 H1 ⟨rfl,st',e,p⟩ R1 S1;exact fin _ st' _ _ p (sdd S1 e) (R1.st st' e).2.1 (R1.st st' e).2.2 ⟨same S1,.non⟩
 ·rintro r' A1 σ1 v H1 ⟨rfl,st',e,p⟩ R1 S1 rv';exact fin _ st' _ _ p (sdd S1 e) (R1.st st' e).2.1 (R1.st st' e).2.2 ⟨same S1,rv'.weak (zcJ S1.b)⟩
 ·rintro r' A1 σ1 v H0 H1 ⟨rfl,st',e,p⟩ R1 S1 f;have R2:=R1.same f.same;exact fin _ st' _ _ p (sdd S1 e) (R2.st st' e).2.1 (R2.st st' e).2.2 ⟨H0,same S1,(R1.st st' e).2.1,(R1.st st' e).2.2,f.weak (zcJ S1.b)⟩
 ·rintro i a c A1 σ1 H1 hi hld ⟨rfl,st',e,p⟩ R1 S1;have f:=R1.own_new hi hld;have e':A1.S=some st':=e;have own0:H a=none:=(S1.ow a ⟨i,c,hi⟩).elim (fun y=>absurd y zbb) id
  have sm:But st.d H (erase H1 a):=fun b o h n=>by
   rw[zai fun z=>by rw[z,own0] at h;cases h];exact same S1 b o h n
  have hB:∀ a,B a->A1.B a:=fun a h=>by rw[S1.b];exact h
  refine fin _ st' _ _ p (sdd S1 e') (R1.st st' e').2.1 (R1.st st' e').2.2 ?_;obtain⟨b1,h1,hF⟩:=R1.st st' e';have nda:st'.d≠a:=fun z=>(R1.sl i _ hi).choose_spec.2.2.1 (by rw[<- z];exact b1);obtain⟨t,l',w,e2,r⟩:=h1.ex
  refine⟨_,sm,⟨⟨t,l',w,by rw[zai nda];exact e2,r⟩,fun T o z=>⟨by
   rw[zai fun y=>by
    have q:=(h1.tb T o z).1;rw[y] at q
    rcases R1.own_at ⟨i,c,hi⟩ with ⟨y,q2⟩|⟨y,q2⟩|⟨_,_,y,q2⟩<;>(rw[q2] at q;cases q)]
   exact(h1.tb T o z).1,(h1.tb T o z).2⟩⟩,hF.keepF fun o u h2=>?_,f.weak hB⟩
  rw[zai fun z=>by
   rw[z] at h2
   rcases R1.own_at ⟨i,c,hi⟩ with ⟨y,q⟩|⟨y,q⟩|⟨_,_,y,q⟩<;>(rw[q] at h2;cases h2)]
  exact h2
 ·rintro A1 σ1 H1 h;exact h.elim
 ·rintro A1 σ1 H1 h;exact h.elim
structure Kn (P:Program)(w:World)(K:Frag)(mg:Str->Option Value)(base:Heap)(k:Nat)(x:Str)(sp:Sp):Prop where
 ex:∃ f fd ps,FnOk P w K mg base CX0 k f fd ps sp/\Binds K fd ps []/\PySem.W.keepIn K (.ref f)=true/\mg x=some (.ref f)
end
def uCall (G:Rel)(ua:UA):UE:=fun A Q=>ua A fun xs A1=>∃ r,G xs r/\Q r A1
def uCallS (T:Tr)(ua:UA):UE:=fun A Q=>ua A fun xs A1=>∃ st,A1.S=some st/\T xs st fun r st'=>Q r { A1 with S:=some st' }
section
variable {X:Cx}{K:Frag}{k:Nat}{x:Str}{p pos:Pos}{e:Expr}{es:List Expr}{ua:UA}{G:Rel}{T:Tr}{fr:Bool}
theorem Rep.dom' {H:Hp}{σ:St}{A:AS}(R:Rep K H σ A):∀ a,AN A a->H a≠none:=fun a h hn=>R.new hn h
theorem zaG (hK:X.K=K)(F:Kn X.prog X.w X.K X.mg X.base k x (spV K false G))(hr:Room k X.A)(ha:PA X (e::es) (liftA K ua))(hg:Gl X x:=by rfl)(hdb:(x==("__debug__":Str))=false:=by decide)(he:starEach (e::es) X.env=(false,eval e X.env)::starEach es X.env:=by rfl)(hpl:(backTo pos (starEach es X.env)).any (·.1)=false:=by rfl) :
  PE X (.Call (.Name x p) (e::es) [] pos) (liftV K (uCall G ua)):=by
 obtain⟨f,fd,ps,F1,b,kp,hm⟩:=F.ex;refine(zaV F1 hr hg hm kp b .nil zdl ha hdb he hpl).mono fun σ H Q ⟨A,P,R,h,c⟩=>⟨A,_,R,h,fun xs A1 vs H1 p R1 S1 rs=>?_⟩;obtain⟨r,g,p⟩:=p;rw[List.append_nil];refine⟨AN A1,xs,r,R1.dom',rs,g,fun v H' q=>?_⟩;have q':Same H1 H'/\RV K (AN A1) H' r v:=q;exact c r A1 v H' p (R1.same q'.1) (S1.trans (Stp.same A1 q'.1)) q'.2
theorem zaw (hK:X.K=K)(F:Kn X.prog X.w X.K X.mg X.base k x (spV K true G))(hr:Room k X.A)(ha:PA X (e::es) (liftA K ua))(hg:Gl X x:=by rfl)(hdb:(x==("__debug__":Str))=false:=by decide)(he:starEach (e::es) X.env=(false,eval e X.env)::starEach es X.env:=by rfl)(hpl:(backTo pos (starEach es X.env)).any (·.1)=false:=by rfl) :
  PE X (.Call (.Name x p) (e::es) [] pos) (liftF K (uCall G ua)):=by
 obtain⟨f,fd,ps,F1,b,kp,hm⟩:=F.ex;refine(zaV F1 hr hg hm kp b .nil zdl ha hdb he hpl).mono fun σ H Q ⟨A,P,R,h,c⟩=>⟨A,_,R,h,fun xs A1 vs H1 p R1 S1 rs=>?_⟩;obtain⟨r,g,p⟩:=p;rw[List.append_nil];refine⟨AN A1,xs,r,R1.dom',rs,g,fun v H' q=>?_⟩;obtain⟨H0,s,f⟩:=q;exact c r A1 v H0 H' p (R1.same s) (S1.trans (Stp.same A1 s)) f
theorem zmQ {H H':Hp}{σ:St}{A:AS}(R:Rep K H σ A){st st':SSt}(hS:A.S=some st)(b:But st.d H H')(hd:st'.d=st.d)(h1:StAt H' st'.d st'.a st'.n st'.b)(h2:ScrF K H' st'.a):Rep K H' σ { A with S:=some st' }/\Stp A H { A with S:=some st' } H':=
 ButS.stp R (by rw[hS];simp [hd]) (fun st2 e=>by cases e;exact⟨h1,h2⟩) fun c o h n=>b c o h fun e=>n ⟨st,hS,e.symm⟩
theorem zaa (hK:X.K=K)(F:Kn X.prog X.w X.K X.mg X.base k x (spS K false T))(hr:Room k X.A)(ha:PA X (e::es) (liftA K ua))(hg:Gl X x:=by rfl)(hdb:(x==("__debug__":Str))=false:=by decide)(he:starEach (e::es) X.env=(false,eval e X.env)::starEach es X.env:=by rfl)(hpl:(backTo pos (starEach es X.env)).any (·.1)=false:=by rfl) :
  PE X (.Call (.Name x p) (e::es) [] pos) (liftV K (uCallS T ua)):=by
 obtain⟨f,fd,ps,F1,b,kp,hm⟩:=F.ex;refine(zaV F1 hr hg hm kp b .nil zdl ha hdb he hpl).mono fun σ H Q ⟨A,P,R,h,c⟩=>⟨A,_,R,h,fun xs A1 vs H1 p R1 S1 rs=>?_⟩;obtain⟨st,hS,p⟩:=p;rw[List.append_nil];obtain⟨s1,s2,s3⟩:=R1.st st hS;refine⟨AN A1,xs,st,_,R1.dom',.inl s1,s2,s3,rs,p,fun r st' v H' q hd h1 h2 po=>?_⟩;have q':But st.d H1 H'/\RV K (AN A1) H' r v:=po;obtain⟨R2,S2⟩:=zmQ R1 hS q'.1 hd h1 h2;exact c r _ v H' q R2 (S1.trans S2) q'.2
end
end L2
namespace L2
open PySem PySem.Spec PyProof.Rows
theorem zbz {n:Nat}(h:n<=100000):n<=sizeLine:=Nat.le_trans h (by decide)
def gAdd:G2
 |.int i,.int j,z=>z=.int (i+j)
 |.str a,.str b,z=>a.length+b.length<=100000/\z=.str (a++b)
 |.tup xs,.tup ys,z=>xs.length+ys.length<=100000/\z=.tup (xs++ys)
 |.lst xs,.lst ys,z=>xs.length+ys.length<=100000/\z=.lst (xs++ys)
 |_,_,_=>False
def gCat:G2
 |.lst xs,.lst ys,z=>xs.length+ys.length<=100000/\z=.lst (xs++ys)
 |_,_,_=>False
def rStr:R2:=fun x y H Q=>∃ i j,x=.str i/\y=.str j/\i.length+j.length<=sizeLine/\Q (.str (i++j)) H
def rAddA (K:Frag):R2:=fun x y H Q=>(rI0 fun i j=>.int (i+j)) x y H Q\/rStr x y H Q\/znd K x y H Q\/rCat x y H Q
section
variable {X:Cx}{K:Frag}
theorem zld (hK:X.K=K):OpR X (binaryOp .Add) (rAddA K):=by
 subst hK;exact op_add.or (op_add_str.or (op_cat0.or zkc))
theorem zku:Br2F K rCat gCat:=by
 intro H A σ x y v w z Q R q1 q2 g c;cases x<;>cases y<;>try exact g.elim
 rename_i xs ys;obtain⟨few,rfl⟩:=g;obtain⟨a,vs,rfl,h1,r1⟩:=q1.lst R;obtain⟨b,ws,rfl,h2,r2⟩:=q2.lst R;refine⟨a,b,vs,ws,rfl,rfl,h1,h2,zbz (by rw[<- r1.len,<- r2.len];exact few),fun p hp=>c _ _ ⟨p,.lst _,rfl,rfl,hp,zal hp _,_,zab,r1.app r2⟩⟩
theorem zpk:Br2 K (rAddA K) gAdd:=by
 intro H A σ x y v w z Q R q1 q2 g c;cases x<;>cases y<;>try exact g.elim
 ·cases q1.int;cases q2.int;cases g;exact .inl ⟨_,_,rfl,rfl,c _ H (Same.refl H) (.int _)⟩
 ·cases q1.str;cases q2.str;obtain⟨few,rfl⟩:=g;exact .inr (.inl ⟨_,_,rfl,rfl,zbz few,c _ H (Same.refl H) (.str _)⟩)
 ·rename_i xs ys;obtain⟨few,rfl⟩:=g;obtain⟨a,vs,rfl,h1,r1⟩:=q1.tup;obtain⟨b,ws,rfl,h2,r2⟩:=q2.tup;refine .inr (.inr (.inl ⟨a,b,vs,ws,rfl,rfl,h1,h2,zbz (by rw[<- r1.len,<- r2.len];exact few),fun e=>?_,fun _ e=>?_,fun _ _ p hp=>?_⟩))
  ·subst e;cases r1;exact c _ H (Same.refl H) (.tup h2 r2)
  ·subst e;cases r2;rw[List.append_nil] at c;exact c _ H (Same.refl H) (.tup h1 r1)
  ·have s:=zal hp (.tup (vs++ws));exact c _ _ s (.tup (SqT.of zab) ((r1.app r2).imp (zaz s)))
 ·rename_i xs ys;obtain⟨few,rfl⟩:=id g;exact .inr (.inr (.inr (zku H A σ _ _ v w _ Q R q1 q2 g fun v' H' f=>c v' H' f.same (f.rvL fun _=>R.new))))
def gI (C:Int->Int->Prop)(f:Int->Int->PV):G2
 |.int i,.int j,z=>C i j/\z=f i j
 |_,_,_=>False
theorem br_I {C:Int->Int->Prop}{f:Int->Int->V}{g:Int->Int->PV}(h:∀ N H i j,RV K N H (g i j) (f i j)):Br2 K (rI C f) (gI C g):=by
 intro H A σ x y v w z Q R q1 q2 g c;cases x<;>cases y<;>try exact g.elim
 obtain⟨hc,rfl⟩:=g;cases q1.int;cases q2.int;exact⟨_,_,rfl,rfl,hc,c _ H (Same.refl H) (h _ _ _ _)⟩
def gI0 (f:Int->Int->PV):G2
 |.int i,.int j,z=>z=f i j
 |_,_,_=>False
theorem zmg {f:Int->Int->V}{g:Int->Int->PV}(h:∀ N H i j,RV K N H (g i j) (f i j)):Br2 K (rI0 f) (gI0 g):=by
 intro H A σ x y v w z Q R q1 q2 g c;cases x<;>cases y<;>try exact g.elim
 cases g;cases q1.int;cases q2.int;exact⟨_,_,rfl,rfl,c _ H (Same.refl H) (h _ _ _ _)⟩
end
section
variable {X:Cx}{K:Frag}{a b:Expr}{ua ub:UE}{pos:Pos}
theorem zbc (hK:X.K=K)(ha:PE X a (liftQ K ua))(hb:PE X b (liftQ K ub)):PE X (.BinOp a .Add b pos) (liftV K (u2 gAdd ua ub)):=zgH (zld hK) zpk ha hb
theorem zhQ (ha:PE X a (liftQ K ua))(hb:PE X b (liftQ K ub)):PE X (.BinOp a .Add b pos) (liftF K (u2 gCat ua ub)):=zjV zkc zku ha hb
theorem zbl (ha:PE X a (liftQ K ua))(hb:PE X b (liftQ K ub)):PE X (.BinOp a .Sub b pos) (liftV K (u2 (gI0 fun i j=>.int (i-j)) ua ub)):=zgH znB (zmg fun _ _ _ _=>.int _) ha hb
theorem zge (ha:PE X a (liftQ K ua))(hb:PE X b (liftQ K ub)):PE X (.BinOp a .Mult b pos) (liftV K (u2 (gI CMul fun i j=>.int (i*j)) ua ub)):=zgH zcR (br_I fun _ _ _ _=>.int _) ha hb
theorem zqt (ha:PE X a (liftQ K ua))(hb:PE X b (liftQ K ub)):PE X (.BinOp a .FloorDiv b pos) (liftV K (u2 (gI (fun _ j=>0<j/\j<2 ^ 200) fun i j=>.int (i / j)) ua ub)):=zgH zdJ (br_I fun _ _ _ _=>.int _) ha hb
theorem zhO (ha:PE X a (liftQ K ua))(hb:PE X b (liftQ K ub)):PE X (.BinOp a .Mod b pos) (liftV K (u2 (gI (fun _ j=>0<j) fun i j=>.int (i % j)) ua ub)):=zgH zcs (br_I fun _ _ _ _=>.int _) ha hb
end
mutual
def peq:PV->PV->Bool
 |.non,.non=>true
 |.bl a,.bl b=>a==b
 |.bl a,.int b=>(if a then 1 else 0)==b
 |.int a,.bl b=>a==(if b then 1 else 0)
 |.int a,.int b=>a==b
 |.str a,.str b=>a==b
 |.tup xs,.tup ys=>peqs xs ys
 |.lst xs,.lst ys=>peqs xs ys
 |_,_=>false
def peqs:List PV->List PV->Bool
 |[],[]=>true
 |x::xs,y::ys=>peq x y&&peqs xs ys
 |_,_=>false
end
mutual
def pdep:PV->Option Nat
 |.tup xs=>(pdeps xs).map (·+1)
 |.lst xs=>(pdeps xs).map (·+1)
 |.raw _=>none
 |.dic _=>none
 |_=>some 0
def pdeps:List PV->Option Nat
 |[]=>some 0
 |x::xs=>match pdep x,pdeps xs with
  |some m,some n=>some (max m n)
  |_,_=>none
end
def Dp (n:Nat)(x:PV):Prop:=∃ m,pdep x=some m/\m<=n
theorem zlT {n:Nat}{x:PV}{xs:List PV}:(∃ m,pdeps (x::xs)=some m/\m<=n)↔Dp n x/\∃ m,pdeps xs=some m/\m<=n:=by
 constructor
 ·rintro⟨m,e,h⟩;unfold pdeps at e
  split at e
  ·rename_i a b e1 e2;cases e;exact⟨⟨a,e1,by omega⟩,b,e2,by omega⟩
  ·cases e
 ·rintro⟨⟨a,e1,h1⟩,b,e2,h2⟩;refine⟨max a b,?_,by omega⟩;unfold pdeps;rw[e1,e2]
theorem dp_tup {n:Nat}{xs:List PV}:Dp (n+1) (.tup xs)↔∃ m,pdeps xs=some m/\m<=n:=by
 unfold Dp pdep;constructor
 ·rintro⟨m,e,h⟩;obtain⟨k,hk,rfl⟩:=Option.map_eq_some_iff.mp e;exact⟨k,hk,by omega⟩
 ·rintro⟨m,e,h⟩;exact⟨m+1,by rw[e];rfl,by omega⟩
theorem dp_lst {n:Nat}{xs:List PV}:Dp (n+1) (.lst xs)↔∃ m,pdeps xs=some m/\m<=n:=by
 unfold Dp pdep;constructor
 ·rintro⟨m,e,h⟩;obtain⟨k,hk,rfl⟩:=Option.map_eq_some_iff.mp e;exact⟨k,hk,by omega⟩
 ·rintro⟨m,e,h⟩;exact⟨m+1,by rw[e];rfl,by omega⟩
theorem zch {xs:List PV}:¬ Dp 0 (.tup xs):=by
 rintro⟨m,e,h⟩;unfold pdep at e;obtain⟨k,hk,rfl⟩:=Option.map_eq_some_iff.mp e;omega
theorem zci {xs:List PV}:¬ Dp 0 (.lst xs):=by
 rintro⟨m,e,h⟩;unfold pdep at e;obtain⟨k,hk,rfl⟩:=Option.map_eq_some_iff.mp e;omega
theorem dp_all {n:Nat}:∀{xs:List PV},(∃ m,pdeps xs=some m/\m<=n)↔∀ x∈xs,Dp n x
 |[]=>by simp [pdeps]
 |x::xs=>by
  rw[zlT,dp_all];simp
end L2
set_option maxHeartbeats 2000000
namespace L2
open PySem PySem.Spec PyProof.Rows
mutual
theorem zfx:∀(n:Nat)(x:PV),Dp n x->peq x x=true
 |_,.non,_=>rfl
 |_,.bl b,_=>by simp [peq]
 |_,.int b,_=>by simp [peq]
 |_,.str b,_=>by simp [peq]
 |0,.tup xs,h=>absurd h zch
 |0,.lst xs,h=>absurd h zci
 |n+1,.tup xs,h=>by
  show peqs xs xs=true;exact zcQ n xs (dp_all.mp (dp_tup.mp h))
 |n+1,.lst xs,h=>by
  show peqs xs xs=true;exact zcQ n xs (dp_all.mp (dp_lst.mp h))
 |_,.raw v,⟨m,e,_⟩=>by cases e
 |_,.dic v,⟨m,e,_⟩=>by cases e
theorem zcQ:∀(n:Nat)(xs:List PV),(∀ x∈xs,Dp n x)->peqs xs xs=true
 |_,[],_=>rfl
 |n,x::xs,h=>by
  show(peq x x&&peqs xs xs)=true;rw[zfx n x (h x (by simp)),zcQ n xs fun y hy=>h y (by simp [hy])];rfl
end
def ej (xs ys:List PV)(j:Nat):Bool:=match xs[j]?,ys[j]? with
 |some x,some y=>peq x y
 |_,_=>false
theorem zhM:∀(xs ys:List PV),peqs xs ys=((List.range (min xs.length ys.length)).all (ej xs ys)&&xs.length==ys.length)
 |[],[]=>by simp [peqs]
 |[],y::ys=>by simp [peqs]
 |x::xs,[]=>by simp [peqs]
 |x::xs,y::ys=>by
  have ih:=zhM xs ys;have e1:min (x::xs).length (y::ys).length=min xs.length ys.length+1:=by simp only[List.length_cons];omega
  have e2:((x::xs).length==(y::ys).length)=(xs.length==ys.length):=by simp
  have e3:ej (x::xs) (y::ys) 0=peq x y:=rfl;have e4:(ej (x::xs) (y::ys))∘Nat.succ=ej xs ys:=by funext j;simp [ej]
  rw[e1,e2,List.range_succ_eq_map,List.all_cons,List.all_map,e3,e4];show(peq x y&&peqs xs ys)=_;rw[ih,Bool.and_assoc]
section
variable {X:Cx}{pins:List (Addr×Obj)}{σ:St}{H:Hp}{s:Shared}{N:Addr->Prop}
theorem tupL (I:Inv X pins σ H s){a:Addr}{vs ws:List V}(h1:SqT X.K H a vs)(h2:H a=some (.lst ws)):False:=by
 obtain⟨its,_,p,_⟩:=I.tuple h1;obtain⟨its',_,q,_⟩:=I.list (SqL.of (K:=X.K) h2);obtain⟨o,e1,c1,_⟩:=p;obtain⟨o',n,e2,c2,_⟩:=q;rw[e1] at e2;cases e2;rw[c1] at c2;injection c2 with c2
 exact absurd c2 (by decide)
mutual
theorem zdG (I:Inv X pins σ H s):∀(n:Nat)(x y:PV)(v:V),Dp n x->Dp n y->RV X.K N H x v->RV X.K N H y v->peq x y=true
 |n,.non,y,v,_,hy,r1,r2=>by cases r1;cases r2<;>first|(obtain⟨m,e,_⟩:=hy;cases e;done)|rfl|simp [peq]
 |n,.bl b,y,v,_,hy,r1,r2=>by cases r1;cases r2<;>first|(obtain⟨m,e,_⟩:=hy;cases e;done)|rfl|simp [peq]
 |n,.int b,y,v,_,hy,r1,r2=>by cases r1;cases r2<;>first|(obtain⟨m,e,_⟩:=hy;cases e;done)|rfl|simp [peq]
 |n,.str b,y,v,_,hy,r1,r2=>by cases r1;cases r2<;>first|(obtain⟨m,e,_⟩:=hy;cases e;done)|rfl|simp [peq]
 |0,.tup xs,y,v,h,_,_,_=>absurd h zch
 |0,.lst xs,y,v,h,_,_,_=>absurd h zci
 |n+1,.tup xs,y,v,hx,hy,r1,r2=>by
  cases r1 with
  |tup h1 h2=>
   cases r2 with
   |raw=>obtain⟨m,e,_⟩:=hy;cases e
   |tup g1 g2=>
    have e:=I.tuple_inj h1 g1;subst e;exact zdF I n _ _ _ (dp_all.mp (dp_tup.mp hx)) (dp_all.mp (dp_tup.mp hy)) h2 g2
   |lst _ g1 g2=>exact(tupL I h1 g1).elim
   |dic _ _ _=>obtain⟨m,e,_⟩:=hy;cases e
 |n+1,.lst xs,y,v,hx,hy,r1,r2=>by
  cases r1 with
  |lst _ h1 h2=>
   cases r2 with
   |raw=>obtain⟨m,e,_⟩:=hy;cases e
   |tup g1 g2=>exact(tupL I g1 h1).elim
   |lst _ g1 g2=>
    rw[h1] at g1;cases g1;exact zdF I n _ _ _ (dp_all.mp (dp_lst.mp hx)) (dp_all.mp (dp_lst.mp hy)) h2 g2
   |dic _ _ _=>obtain⟨m,e,_⟩:=hy;cases e
 |_,.raw v,_,_,⟨m,e,_⟩,_,_,_=>by cases e
 |_,.dic v,_,_,⟨m,e,_⟩,_,_,_=>by cases e
theorem zdF (I:Inv X pins σ H s):∀(n:Nat)(xs ys:List PV)(vs:List V),(∀ x∈xs,Dp n x)->(∀ x∈ys,Dp n x)->RVs X.K N H xs vs->RVs X.K N H ys vs->peqs xs ys=true
 |_,[],ys,_,_,_,.nil,r2=>by cases r2;rfl
 |n,x::xs,ys,_,hx,hy,.cons r1 q1,r2=>by
  cases r2 with
  |cons r2 q2=>
   show(peq x _&&peqs xs _)=true;rw[zdG I n x _ _ (hx x (by simp)) (hy _ (by simp)) r1 r2,zdF I n xs _ _ (fun y h=>hx y (by simp [h])) (fun y h=>hy y (by simp [h])) q1 q2];rfl
end
theorem zcG {A:Around}{n:Nat}{xs ys:List PV}{vs ws:List V}{us us':List Value}(r1:RVs X.K N H xs vs)(r2:RVs X.K N H ys ws)(q1:Vals vs us)(q2:Vals ws us')(d1:∀ x∈xs,Dp n x)(d2:∀ x∈ys,Dp n x)
  (hR:∀ x y v w u u',Dp n x->Dp n y->RV X.K N H x v->RV X.K N H y w->RelV v u->RelV w u'->SeqAt.EqAt A s u u' (peq x y)):∀ j (h1:j<us.toArray.size)(h2:j<us'.toArray.size),SeqAt.EqAt A s us.toArray[j] us'.toArray[j] (ej xs ys j):=by
 refine zhK (R:=fun v w b=>∃ x y,Dp n x/\Dp n y/\RV X.K N H x v/\RV X.K N H y w/\b=peq x y) q1 q2 (fun j v w hv hw=>?_) fun v w b u u' ⟨x,y,e1,e2,e3,e4,e5⟩ ru rw=>by subst e5;exact hR x y v w u u' e1 e2 e3 e4 ru rw
 obtain⟨x,hx,rx⟩:=r1.at' hv;obtain⟨y,hy,ry⟩:=r2.at' hw;refine⟨x,y,d1 x (List.mem_of_getElem? hx),d2 y (List.mem_of_getElem? hy),rx,ry,?_⟩;unfold ej;rw[hx,hy]
theorem zna {A:Around}{n:Nat}{xs ys:List PV}{vs ws:List V}{a b:Addr}(I:Inv X pins σ H s)(hu:A.units<cLine)(h1:SqT X.K H a vs)(h2:SqT X.K H b ws)(r1:RVs X.K N H xs vs)(r2:RVs X.K N H ys ws)(d1:∀ x∈xs,Dp n x)(d2:∀ x∈ys,Dp n x)
  (hR:∀ x y v w u u',Dp n x->Dp n y->RV X.K N H x v->RV X.K N H y w->RelV v u->RelV w u'->SeqAt.EqAt A.in1 s u u' (peq x y)):SeqAt.RcAt A s (.ref a) (.ref b) (peqs xs ys)/\SeqAt.RcNeAt A s (.ref a) (.ref b) (!peqs xs ys):=by
 obtain⟨us,q1,p1,_⟩:=I.tuple h1;obtain⟨us',q2,p2,_⟩:=I.tuple h2;have z:=SeqAt.RcAt.tuples (A:=A) (s:=s) (e:=ej xs ys) (show s.heap.IsTuple a us.toArray from p1) (show s.heap.IsTuple b us'.toArray from p2) hu (zcG r1 r2 q1 q2 d1 d2 hR);have z2:=SeqAt.RcNeAt.tuples (A:=A) (s:=s) (e:=ej xs ys) (show s.heap.IsTuple a us.toArray from p1) (show s.heap.IsTuple b us'.toArray from p2) hu (zcG r1 r2 q1 q2 d1 d2 hR);simp only[List.size_toArray] at z z2;rw[<- q1.length,<- q2.length,<- r1.len,<- r2.len] at z z2;rw[zhM];exact⟨z,z2⟩
theorem znc {A:Around}{n:Nat}{xs ys:List PV}{vs ws:List V}{a b:Addr}(I:Inv X pins σ H s)(hu:A.units<cLine)(h1:H a=some (.lst vs))(h2:H b=some (.lst ws))(r1:RVs X.K N H xs vs)(r2:RVs X.K N H ys ws)(d1:∀ x∈xs,Dp n x)(d2:∀ x∈ys,Dp n x)
  (hR:∀ x y v w u u',Dp n x->Dp n y->RV X.K N H x v->RV X.K N H y w->RelV v u->RelV w u'->SeqAt.EqAt A.in1 s u u' (peq x y)):SeqAt.RcAt A s (.ref a) (.ref b) (peqs xs ys)/\SeqAt.RcNeAt A s (.ref a) (.ref b) (!peqs xs ys):=by
 obtain⟨us,q1,p1,_⟩:=I.list (SqL.of (K:=X.K) h1);obtain⟨us',q2,p2,_⟩:=I.list (SqL.of (K:=X.K) h2);have l1:=q1.length;have l2:=q2.length;have l3:=r1.len;have l4:=r2.len;rw[zhM];by_cases hz:xs.length=ys.length
 ·have z:=SeqAt.RcAt.lists (A:=A) (s:=s) (e:=ej xs ys) p1.isList p2.isList (by simp;omega) hu (zcG r1 r2 q1 q2 d1 d2 hR);have z2:=SeqAt.RcNeAt.lists (A:=A) (s:=s) (e:=ej xs ys) p1.isList p2.isList (by simp;omega) hu (zcG r1 r2 q1 q2 d1 d2 hR);simp only[List.size_toArray] at z z2;rw[<- l1,<- l3] at z z2;rw[hz,Nat.min_self,beq_self_eq_true,Bool.and_true,<- hz];exact⟨z,z2⟩
 ·rw[show(xs.length==ys.length)=false by simpa using hz,Bool.and_false];exact⟨SeqAt.RcAt.lists_lengths (A:=A) (s:=s) p1.isList p2.isList (by simp;omega) hu,SeqAt.RcNeAt.lists_lengths (A:=A) (s:=s) p1.isList p2.isList (by simp;omega) hu⟩
def pfl:PV->Bool
 |.non=>true
 |.bl _=>true
 |.int _=>true
 |.str _=>true
 |_=>false
theorem zcf {x:PV}{v:V}(h:pfl x=true)(r:RV X.K N H x v):flatV v=true:=by
 cases r<;>first|rfl|cases h
theorem zfj {x y:PV}{v w:V}(hx:pfl x=true)(hy:pfl y=true)(r1:RV X.K N H x v)(r2:RV X.K N H y w):eqV v w=peq x y:=by
 cases r1<;>(first|(cases hx;done)|(cases r2<;>first|(cases hy;done)|rfl))
theorem zhL (I:Inv X pins σ H s):∀(n:Nat)(A:Around)(x y:PV)(v w:V)(u u':Value),A.units+n<cLine->Dp n x->Dp n y->RV X.K N H x v->RV X.K N H y w->RelV v u->RelV w u'->SeqAt.EqAt A s u u' (peq x y):=by
 intro n
 induction n with
 |zero=>
  intro A x y v w u u' hu hx hy r1 r2 q1 q2
  have fx:pfl x=true:=by
   cases x<;>first|rfl|exact absurd hx zch|exact absurd hx zci|(obtain⟨m,e,_⟩:=hx;cases e)
  have fy:pfl y=true:=by
   cases y<;>first|rfl|exact absurd hy zch|exact absurd hy zci|(obtain⟨m,e,_⟩:=hy;cases e)
  rw[<- zfj fx fy r1 r2];exact zex (zcf fx r1) (zcf fy r2) q1 q2
 |succ n ih=>
  intro A x y v w u u' hu hx hy r1 r2 q1 q2;by_cases fx:pfl x=true
  ·by_cases fy:pfl y=true
   ·rw[<- zfj fx fy r1 r2];exact zex (zcf fx r1) (zcf fy r2) q1 q2
   ·cases r2<;>first|exact absurd rfl fy|(obtain⟨m,e,_⟩:=hy;cases e;done)|skip
    ·rename_i a xs vs h1 h2;cases q2;obtain⟨us,_,p,_⟩:=I.tuple h1;have p':s.heap.IsTuple a us.toArray:=p;cases r1<;>first|(cases fx;done)|skip
     ·cases q1;exact SeqAt.EqAt.none_tuple p' (by omega)
     ·cases q1;exact SeqAt.EqAt.bool_tuple _ p' (by omega)
     ·obtain⟨t,rfl⟩:=q1;exact SeqAt.EqAt.int_tuple _ _ p' (by omega)
     ·obtain⟨t,rfl⟩:=q1;exact SeqAt.EqAt.str_tuple _ _ p' (by omega)
    ·rename_i a xs vs na h1 h2;cases q2;obtain⟨us,_,p,_⟩:=I.list (SqL.of (K:=X.K) h1);have p':=p.isList;cases r1<;>first|(cases fx;done)|skip
     ·cases q1;exact SeqAt.EqAt.none_list p' (by omega)
     ·cases q1;exact SeqAt.EqAt.bool_list _ p' (by omega)
     ·obtain⟨t,rfl⟩:=q1;exact SeqAt.EqAt.int_list _ _ p' (by omega)
     ·obtain⟨t,rfl⟩:=q1;exact SeqAt.EqAt.str_list _ _ p' (by omega)
  ·cases r1<;>first|exact absurd rfl fx|(obtain⟨m,e,_⟩:=hx;cases e;done)|skip
   ·rename_i a xs vs h1 h2;cases q1;obtain⟨us,_,p,_⟩:=I.tuple h1;have p':s.heap.IsTuple a us.toArray:=p;cases r2<;>first|(obtain⟨m,e,_⟩:=hy;cases e;done)|skip
    ·cases q2;exact SeqAt.EqAt.tuple_none p' (by omega)
    ·cases q2;exact SeqAt.EqAt.tuple_bool _ p' (by omega)
    ·obtain⟨t,rfl⟩:=q2;exact SeqAt.EqAt.tuple_int _ _ p' (by omega)
    ·obtain⟨t,rfl⟩:=q2;exact SeqAt.EqAt.tuple_str _ _ p' (by omega)
    ·rename_i b ys ws g1 g2;cases q2;by_cases e:a=b
     ·subst e;rw[zdG I (n+1) _ _ _ hx hy (.tup h1 h2) (.tup g1 g2)];exact SeqAt.EqAt.same _
     ·exact .of_refs e (zna I (by omega) h1 g1 h2 g2 (dp_all.mp (dp_tup.mp hx)) (dp_all.mp (dp_tup.mp hy)) fun x y v w u u' a1 a2 a3 a4 a5 a6=>ih A.in1 x y v w u u' (by rw[zaF];omega) a1 a2 a3 a4 a5 a6).1
    ·rename_i b ys ws nb g1 g2;cases q2;obtain⟨us',_,p2,_⟩:=I.list (SqL.of (K:=X.K) g1);exact SeqAt.EqAt.tuple_list p' p2.isList (by omega)
   ·rename_i a xs vs na h1 h2;cases q1;obtain⟨us,_,p,_⟩:=I.list (SqL.of (K:=X.K) h1);have p':=p.isList;cases r2<;>first|(obtain⟨m,e,_⟩:=hy;cases e;done)|skip
    ·cases q2;exact SeqAt.EqAt.list_none p' (by omega)
    ·cases q2;exact SeqAt.EqAt.list_bool _ p' (by omega)
    ·obtain⟨t,rfl⟩:=q2;exact SeqAt.EqAt.list_int _ _ p' (by omega)
    ·obtain⟨t,rfl⟩:=q2;exact SeqAt.EqAt.list_str _ _ p' (by omega)
    ·rename_i b ys ws g1 g2;cases q2;obtain⟨us',_,p2,_⟩:=I.tuple g1;exact SeqAt.EqAt.list_tuple p' (show s.heap.IsTuple b us'.toArray from p2) (by omega)
    ·rename_i b ys ws nb g1 g2;cases q2;by_cases e:a=b
     ·subst e;rw[zdG I (n+1) _ _ _ hx hy (.lst na h1 h2) (.lst nb g1 g2)];exact SeqAt.EqAt.same _
     ·exact .of_refs e (znc I (by omega) h1 g1 h2 g2 (dp_all.mp (dp_lst.mp hx)) (dp_all.mp (dp_lst.mp hy)) fun x y v w u u' a1 a2 a3 a4 a5 a6=>ih A.in1 x y v w u u' (by rw[zaF];omega) a1 a2 a3 a4 a5 a6).1
end
end L2
namespace L2
open PySem PySem.Spec PyProof.Rows
mutual
def nrm:PV->PV
 |.bl b=>.int (if b then 1 else 0)
 |.tup xs=>.tup (nrms xs)
 |.lst xs=>.lst (nrms xs)
 |x=>x
def nrms:List PV->List PV
 |[]=>[]
 |x::xs=>nrm x::nrms xs
end
mutual
theorem zbe:∀(n:Nat)(x y:PV),Dp n x->Dp n y->(peq x y=true↔nrm x=nrm y)
 |n,.non,y,_,hy=>by cases y<;>first|(obtain⟨m,e,_⟩:=hy;cases e;done)|simp [peq,nrm]
 |n,.bl b,y,_,hy=>by cases y<;>first|(obtain⟨m,e,_⟩:=hy;cases e;done)|(simp [peq,nrm];done)|(rename_i c;cases b<;>cases c<;>simp [peq,nrm])
 |n,.int b,y,_,hy=>by cases y<;>first|(obtain⟨m,e,_⟩:=hy;cases e;done)|simp [peq,nrm]
 |n,.str b,y,_,hy=>by cases y<;>first|(obtain⟨m,e,_⟩:=hy;cases e;done)|simp [peq,nrm]
 |0,.tup xs,y,h,_=>absurd h zch
 |0,.lst xs,y,h,_=>absurd h zci
 |n+1,.tup xs,y,hx,hy=>by
  cases y with
  |tup ys=>
   show peqs xs ys=true↔PV.tup (nrms xs)=PV.tup (nrms ys);rw[zdI n xs ys (dp_all.mp (dp_tup.mp hx)) (dp_all.mp (dp_tup.mp hy))];simp
  |raw _=>obtain⟨m,e,_⟩:=hy;cases e
  |dic _=>obtain⟨m,e,_⟩:=hy;cases e
  |_=>simp [peq,nrm]
 |n+1,.lst xs,y,hx,hy=>by
  cases y with
  |lst ys=>
   show peqs xs ys=true↔PV.lst (nrms xs)=PV.lst (nrms ys);rw[zdI n xs ys (dp_all.mp (dp_lst.mp hx)) (dp_all.mp (dp_lst.mp hy))];simp
  |raw _=>obtain⟨m,e,_⟩:=hy;cases e
  |dic _=>obtain⟨m,e,_⟩:=hy;cases e
  |_=>simp [peq,nrm]
 |_,.raw v,_,⟨m,e,_⟩,_=>by cases e
 |_,.dic v,_,⟨m,e,_⟩,_=>by cases e
theorem zdI:∀(n:Nat)(xs ys:List PV),(∀ x∈xs,Dp n x)->(∀ x∈ys,Dp n x)->(peqs xs ys=true↔nrms xs=nrms ys)
 |_,[],ys,_,_=>by cases ys<;>simp [peqs,nrms]
 |n,x::xs,ys,hx,hy=>by
  cases ys with
  |nil=>simp [peqs,nrms]
  |cons y ys=>
   show(peq x y&&peqs xs ys)=true↔nrm x::nrms xs=nrm y::nrms ys;rw[Bool.and_eq_true,zbe n x y (hx x (by simp)) (hy y (by simp)),zdI n xs ys (fun z h=>hx z (by simp [h])) (fun z h=>hy z (by simp [h]))];simp
end
def RVr (K:Frag)(N:Addr->Prop)(H:Hp)(p:PV)(v:V):Prop:=RV K N H p v\/∃ a xs vs,p=.lst xs/\v=.ref a/\H a=some (.lst vs)/\RVs K N H xs vs
theorem RVq.r {K:Frag}{A:AS}{H:Hp}{σ:St}{p:PV}{v:V}(R:Rep K H σ A)(h:RVq K A H p v)(hd:∀ k,p≠.dic k):RVr K (AN A) H p v:=by
 rcases id h with h'|⟨i,a,c,hl,rfl,rfl⟩
 ·exact .inl h'
 ·cases c with
  |lst xs=>obtain⟨a,vs,h1,h2,h3⟩:=h.lst R;exact .inr ⟨a,xs,vs,rfl,h1,h2,h3⟩
  |dic xs=>exact absurd rfl (hd xs)
  |ins _ _ _=>exact hl.2.elim
def rEqP (K:Frag)(neg:Bool):R2:=fun x y H Q=>∃ N px py n,n<=80/\Dp n px/\Dp n py/\RVr K N H px x/\RVr K N H py y/\Q (.bl (neg^^peq px py)) H
section
variable {X:Cx}{pins:List (Addr×Obj)}{σ:St}{H:Hp}{s:Shared}{N:Addr->Prop}
theorem zkT {A:Around}{x y:V}{u v:Value}(fx:flatV x=true)(fy:flatV y=true)(rx:RelV x u)(ry:RelV y v):SeqAt.RcAt A s u v (eqV x y)/\SeqAt.RcNeAt A s u v (!eqV x y):=by
 cases x<;>first|(cases fx;done)|skip
 ·cases rx;cases y<;>first|(cases fy;done)|skip
  ·cases ry;exact⟨.none_none,.none_none⟩
  ·cases ry;exact⟨.none_bool _,.none_bool _⟩
  ·obtain⟨t,rfl⟩:=ry;exact⟨.none_int _ _,.none_int _ _⟩
  ·obtain⟨t,rfl⟩:=ry;exact⟨.none_str _ _,.none_str _ _⟩
 ·cases rx;cases y<;>first|(cases fy;done)|skip
  ·cases ry;exact⟨.bool_none _,.bool_none _⟩
  ·cases ry;exact⟨.bool_bool _ _,.bool_bool _ _⟩
  ·obtain⟨t,rfl⟩:=ry;exact⟨.bool_int _ _ _,.bool_int _ _ _⟩
  ·obtain⟨t,rfl⟩:=ry;exact⟨.bool_str _ _ _,.bool_str _ _ _⟩
 ·obtain⟨t,rfl⟩:=rx;cases y<;>first|(cases fy;done)|skip
  ·cases ry;exact⟨.int_none _ _,.int_none _ _⟩
  ·cases ry;exact⟨.int_bool _ _ _,.int_bool _ _ _⟩
  ·obtain⟨t,rfl⟩:=ry;exact⟨.int_int _ _ _ _,.int_int _ _ _ _⟩
  ·obtain⟨t,rfl⟩:=ry;exact⟨.int_str _ _ _ _,.int_str _ _ _ _⟩
 ·obtain⟨t,rfl⟩:=rx;cases y<;>first|(cases fy;done)|skip
  ·cases ry;exact⟨.str_none _ _,.str_none _ _⟩
  ·cases ry;exact⟨.str_bool _ _ _,.str_bool _ _ _⟩
  ·obtain⟨t,rfl⟩:=ry;exact⟨.str_int _ _ _ _,.str_int _ _ _ _⟩
  ·obtain⟨t,rfl⟩:=ry;exact⟨.str_str _ _ _ _,.str_str _ _ _ _⟩
theorem RVr.get {p:PV}{v:V}{n:Nat}(d:Dp n p)(h:RVr X.K N H p v):(pfl p=true/\RV X.K N H p v)\/(∃ xs a vs m,n=m+1/\p=.tup xs/\v=.ref a/\SqT X.K H a vs/\RVs X.K N H xs vs/\∀ x∈xs,Dp m x) \/
  ∃ xs a vs m,n=m+1/\p=.lst xs/\v=.ref a/\H a=some (.lst vs)/\RVs X.K N H xs vs/\∀ x∈xs,Dp m x:=by
 have g:∀ xs,p=.lst xs->∃ m,n=m+1/\∀ x∈xs,Dp m x:=fun xs e=>by
  subst e
  cases n with
  |zero=>exact absurd d zci
  |succ m=>exact⟨m,rfl,dp_all.mp (dp_lst.mp d)⟩
 rcases h with h|⟨a,xs,vs,e,rfl,h1,h2⟩
 ·cases id h<;>first|exact .inl ⟨rfl,h⟩|skip
  ·obtain⟨m,e,_⟩:=d;cases e
  ·rename_i a xs vs h1 h2
   cases n with
   |zero=>exact absurd d zch
   |succ m=>exact .inr (.inl ⟨xs,a,vs,m,rfl,rfl,rfl,h1,h2,dp_all.mp (dp_tup.mp d)⟩)
  ·rename_i a xs vs _ h1 h2;obtain⟨m,e,q⟩:=g xs rfl;exact .inr (.inr ⟨xs,a,vs,m,e,rfl,rfl,h1,h2,q⟩)
  ·obtain⟨m,e,_⟩:=d;cases e
 ·obtain⟨m,e',q⟩:=g xs e;exact .inr (.inr ⟨xs,a,vs,m,e',e,rfl,h1,h2,q⟩)
theorem znb (I:Inv X pins σ H s){n:Nat}{A:Around}{x y:PV}{v w:V}{u u':Value}(hu:A.units+n<cLine)(hx:Dp n x)(hy:Dp n y)(r1:RVr X.K N H x v)(r2:RVr X.K N H y w)(q1:RelV v u)(q2:RelV w u') :
  SeqAt.RcAt A s u u' (peq x y)/\SeqAt.RcNeAt A s u u' (!peq x y):=by
 have deep:∀ m,n=m+1->∀ x y v w u u',Dp m x->Dp m y->RV X.K N H x v->RV X.K N H y w->RelV v u->RelV w u'->SeqAt.EqAt A.in1 s u u' (peq x y):=fun m e x y v w u u' a1 a2 a3 a4 a5 a6=>zhL I m A.in1 x y v w u u' (by rw[zaF];omega) a1 a2 a3 a4 a5 a6;have hu0:A.units<cLine:=by omega
 rcases r1.get hx with ⟨fx,r1⟩|⟨xs,a,vs,m,e,rfl,rfl,h1,h2,d1⟩|⟨xs,a,vs,m,e,rfl,rfl,h1,h2,d1⟩
 ·rcases r2.get hy with ⟨fy,r2⟩|⟨ys,b,ws,m',e',rfl,rfl,g1,g2,d2⟩|⟨ys,b,ws,m',e',rfl,rfl,g1,g2,d2⟩
  ·rw[<- zfj fx fy r1 r2];exact zkT (zcf fx r1) (zcf fy r2) q1 q2
  ·cases q2;obtain⟨us,_,p,_⟩:=I.tuple g1;have p':s.heap.IsTuple b us.toArray:=p;cases r1<;>first|(cases fx;done)|skip
   ·cases q1;exact⟨.none_tuple p' hu0,.none_tuple p' hu0⟩
   ·cases q1;exact⟨.bool_tuple _ p' hu0,.bool_tuple _ p' hu0⟩
   ·obtain⟨t,rfl⟩:=q1;exact⟨.int_tuple _ _ p' hu0,.int_tuple _ _ p' hu0⟩
   ·obtain⟨t,rfl⟩:=q1;exact⟨.str_tuple _ _ p' hu0,.str_tuple _ _ p' hu0⟩
  ·cases q2;obtain⟨us,_,p,_⟩:=I.list (SqL.of (K:=X.K) g1);have p':=p.isList;cases r1<;>first|(cases fx;done)|skip
   ·cases q1;exact⟨.none_list p' hu0,.none_list p' hu0⟩
   ·cases q1;exact⟨.bool_list _ p' hu0,.bool_list _ p' hu0⟩
   ·obtain⟨t,rfl⟩:=q1;exact⟨.int_list _ _ p' hu0,.int_list _ _ p' hu0⟩
   ·obtain⟨t,rfl⟩:=q1;exact⟨.str_list _ _ p' hu0,.str_list _ _ p' hu0⟩
 ·cases q1;obtain⟨us,_,p,_⟩:=I.tuple h1;have p':s.heap.IsTuple a us.toArray:=p;rcases r2.get hy with ⟨fy,r2⟩|⟨ys,b,ws,m',e',rfl,rfl,g1,g2,d2⟩|⟨ys,b,ws,m',e',rfl,rfl,g1,g2,d2⟩
  ·cases r2<;>first|(cases fy;done)|skip
   ·cases q2;exact⟨.tuple_none p' hu0,.tuple_none p' hu0⟩
   ·cases q2;exact⟨.tuple_bool _ p' hu0,.tuple_bool _ p' hu0⟩
   ·obtain⟨t,rfl⟩:=q2;exact⟨.tuple_int _ _ p' hu0,.tuple_int _ _ p' hu0⟩
   ·obtain⟨t,rfl⟩:=q2;exact⟨.tuple_str _ _ p' hu0,.tuple_str _ _ p' hu0⟩
  ·cases q2;have em:m'=m:=by omega
   subst em;exact zna I hu0 h1 g1 h2 g2 d1 d2 (deep _ e)
  ·cases q2;obtain⟨us',_,p2,_⟩:=I.list (SqL.of (K:=X.K) g1);exact⟨.tuple_list p' p2.isList hu0,.tuple_list p' p2.isList hu0⟩
 ·cases q1;obtain⟨us,_,p,_⟩:=I.list (SqL.of (K:=X.K) h1);have p':=p.isList;rcases r2.get hy with ⟨fy,r2⟩|⟨ys,b,ws,m',e',rfl,rfl,g1,g2,d2⟩|⟨ys,b,ws,m',e',rfl,rfl,g1,g2,d2⟩
  ·cases r2<;>first|(cases fy;done)|skip
   ·cases q2;exact⟨.list_none p' hu0,.list_none p' hu0⟩
   ·cases q2;exact⟨.list_bool _ p' hu0,.list_bool _ p' hu0⟩
   ·obtain⟨t,rfl⟩:=q2;exact⟨.list_int _ _ p' hu0,.list_int _ _ p' hu0⟩
   ·obtain⟨t,rfl⟩:=q2;exact⟨.list_str _ _ p' hu0,.list_str _ _ p' hu0⟩
  ·cases q2;obtain⟨us',_,p2,_⟩:=I.tuple g1;exact⟨.list_tuple p' (show s.heap.IsTuple b us'.toArray from p2) hu0,.list_tuple p' (show s.heap.IsTuple b us'.toArray from p2) hu0⟩
  ·cases q2;have em:m'=m:=by omega
   subst em;exact znc I hu0 h1 g1 h2 g2 d1 d2 (deep _ e)
end
section
variable {X:Cx}
theorem zkb (hu:X.A.units+100<cLine):OpR X (compareOp .Eq) (rEqP X.K false):=by
 intro pins s σ H x y v u Q I rx ry h;obtain⟨N,px,py,n,hn,d1,d2,r1,r2,q⟩:=h;exact(znb I (by omega) d1 d2 r1 r2 rx ry).1 X.prog X.w X.xe _ ⟨.bl _,H,I,rfl,by simpa using q⟩
theorem zka (hu:X.A.units+100<cLine):OpR X (compareOp .NotEq) (rEqP X.K true):=by
 intro pins s σ H x y v u Q I rx ry h;obtain⟨N,px,py,n,hn,d1,d2,r1,r2,q⟩:=h;exact(znb I (by omega) d1 d2 r1 r2 rx ry).2 X.prog X.w X.xe _ ⟨.bl _,H,I,rfl,by simpa using q⟩
end
def gEq (neg:Bool):G2:=fun x y z=>(∃ n,n<=80/\Dp n x/\Dp n y)/\z=.bl (neg^^peq x y)
theorem zjG {K:Frag}{neg:Bool}:Br2 K (rEqP K neg) (gEq neg):=by
 intro H A σ x y v w z Q R q1 q2 g c;obtain⟨⟨n,hn,d1,d2⟩,rfl⟩:=g;have nd:∀{x:PV},Dp n x->∀ k,x≠.dic k:=fun d k e=>by subst e;obtain⟨m,e,_⟩:=d;cases e
 exact⟨AN A,x,y,n,hn,d1,d2,q1.r R (nd d1),q2.r R (nd d2),c _ H (Same.refl H) (.bl _)⟩
section
variable {X:Cx}{K:Frag}{a b:Expr}{ua ub:UE}{pos:Pos}{k:Nat}
theorem e_eq (hK:X.K=K)(hr:Room k X.A)(ha:PE X a (liftQ K ua))(hb:PE X b (liftQ K ub)):PE X (.Compare a [.Eq] [b] pos) (liftV K (u2 (gEq false) ua ub)):=by
 subst hK;exact ziH (zkb (by have:=hr.un;omega)) zjG ha hb (nomark _)
theorem t_eq (hK:X.K=K)(hr:Room k X.A)(ha:PE X a (liftQ K ua))(hb:PE X b (liftQ K ub)):PT X (.Compare a [.Eq] [b] pos) (liftT K (u2t (gEq false) ua ub)):=by
 subst hK;exact zcO (zkb (by have:=hr.un;omega)) zjG ha hb (nomark _)
theorem e_ne (hK:X.K=K)(hr:Room k X.A)(ha:PE X a (liftQ K ua))(hb:PE X b (liftQ K ub)):PE X (.Compare a [.NotEq] [b] pos) (liftV K (u2 (gEq true) ua ub)):=by
 subst hK;exact ziH (zka (by have:=hr.un;omega)) zjG ha hb (nomark _)
theorem t_ne (hK:X.K=K)(hr:Room k X.A)(ha:PE X a (liftQ K ua))(hb:PE X b (liftQ K ub)):PT X (.Compare a [.NotEq] [b] pos) (liftT K (u2t (gEq true) ua ub)):=by
 subst hK;exact zcO (zka (by have:=hr.un;omega)) zjG ha hb (nomark _)
end
end L2
namespace L2
open PySem PySem.Spec PyProof.Rows
def pin (x:PV)(ys:List PV):Bool:=ys.any fun y=>peq y x
open Classical in
noncomputable def eIn (K:Frag)(N:Addr->Prop)(H:Hp)(n:Nat)(px:PV)(u:Value):Bool:=decide (∃ p v,RelV v u/\RV K N H p v/\Dp n p/\peq p px=true)
section
variable {X:Cx}{pins:List (Addr×Obj)}{σ:St}{H:Hp}{s:Shared}{N:Addr->Prop}
open Classical in
theorem zhS (I:Inv X pins σ H s){n:Nat}{px p:PV}{v:V}{u:Value}(dx:Dp n px)(dp:Dp n p)(r:RV X.K N H p v)(q:RelV v u):eIn X.K N H n px u=peq p px:=by
 unfold eIn;by_cases e:peq p px=true
 ·rw[e];exact decide_eq_true ⟨p,v,q,r,dp,e⟩
 ·have e':peq p px=false:=by simpa using e
  rw[e'];refine decide_eq_false ?_;rintro⟨p',v',q',r',dp',e2⟩;have ev:=q'.inj q;subst ev;have z:=(zbe n p' p dp' dp).mp (zdG I n p' p _ dp' dp r' r);have z2:=(zbe n p' px dp' dx).mp e2;exact e ((zbe n p px dp dx).mpr (z.symm.trans z2))
theorem zdk (I:Inv X pins σ H s){n:Nat}{px:PV}(dx:Dp n px):∀{ps:List PV}{vs:List V}{us:List Value},RVs X.K N H ps vs->Vals vs us->(∀ p∈ps,Dp n p)->us.any (eIn X.K N H n px)=pin px ps
 |_,_,_,.nil,.nil,_=>rfl
 |_,_,_,.cons r rs,.cons q qs,d=>by
  rw[List.any_cons,zhS I dx (d _ (by simp)) r q,zdk I dx rs qs fun p h=>d p (by simp [h])];rfl
theorem zcd (I:Inv X pins σ H s){A:Around}{n:Nat}{px:PV}{x:V}{ux:Value}(hu:A.units+n<cLine)(dx:Dp n px)(rx:RV X.K N H px x)(qx:RelV x ux):∀{ps:List PV}{vs:List V}{us:List Value},RVs X.K N H ps vs->Vals vs us->(∀ p∈ps,Dp n p) ->
  ∀ u∈us,SeqAt.EqAt A s u ux (eIn X.K N H n px u)
 |_,_,_,.nil,.nil,_=>fun u h=>nomatch h
 |_,_,_,.cons r rs,.cons q qs,d=>fun u h=>by
  rcases List.mem_cons.mp h with rfl|h
  ·rw[zhS I dx (d _ (by simp)) r q];exact zhL I n A _ _ _ _ _ _ hu (d _ (by simp)) dx r rx q qx
  ·exact zcd I hu dx rx qx rs qs (fun p h=>d p (by simp [h])) u h
end
def rInP (K:Frag)(neg:Bool):R2:=fun x y H Q=>∃ N px pys n,n<=80/\Dp n px/\(∀ p∈pys,Dp n p)/\RV K N H px x/\(∃ a vs,y=.ref a/\(SqT K H a vs\/H a=some (.lst vs))/\RVs K N H pys vs)/\Q (.bl (neg^^pin px pys)) H
section
variable {X:Cx}
theorem znD (hu:X.A.units+100<cLine):OpR X (compareOp .In) (rInP X.K false):=by
 intro pins s σ H x y v u Q I rx ry h;obtain⟨N,px,pys,n,hn,dx,dy,r1,⟨a,vs,rfl,hq,rs⟩,q⟩:=h;cases ry;have q':Q (.bl (pin px pys)) H:=by simpa using q
 rcases hq with hq|hq
 ·obtain⟨its,r,pl,hz⟩:=I.tuple hq;refine SeqAt.in_tupleAt (eIn X.K N H n px) pl (fun w hw=>zcd I (by rw[zaF];omega) dx r1 rx rs r dy w (by simpa using hw)) ⟨.bl _,H,I,rfl,?_⟩;rw[show its.toArray.any (eIn X.K N H n px)=its.any (eIn X.K N H n px) by simp,zdk I dx rs r dy];exact q'
 ·obtain⟨its,r,pl,hz⟩:=I.list (SqL.of (K:=X.K) hq);refine SeqAt.in_listAt (eIn X.K N H n px) pl.isList (fun w hw=>zcd I (by rw[zaF];omega) dx r1 rx rs r dy w (by simpa using hw)) ⟨.bl _,H,I,rfl,?_⟩;rw[show its.toArray.any (eIn X.K N H n px)=its.any (eIn X.K N H n px) by simp,zdk I dx rs r dy];exact q'
theorem zhf (hu:X.A.units+100<cLine):OpR X (compareOp .NotIn) (rInP X.K true):=by
 intro pins s σ H x y v u Q I rx ry h;obtain⟨N,px,pys,n,hn,dx,dy,r1,⟨a,vs,rfl,hq,rs⟩,q⟩:=h;cases ry;have q':Q (.bl (!pin px pys)) H:=by simpa using q
 rcases hq with hq|hq
 ·obtain⟨its,r,pl,hz⟩:=I.tuple hq;refine SeqAt.notIn_tupleAt (eIn X.K N H n px) pl (fun w hw=>zcd I (by rw[zaF];omega) dx r1 rx rs r dy w (by simpa using hw)) ⟨.bl _,H,I,rfl,?_⟩;rw[show its.toArray.any (eIn X.K N H n px)=its.any (eIn X.K N H n px) by simp,zdk I dx rs r dy];exact q'
 ·obtain⟨its,r,pl,hz⟩:=I.list (SqL.of (K:=X.K) hq);refine SeqAt.notIn_listAt (eIn X.K N H n px) pl.isList (fun w hw=>zcd I (by rw[zaF];omega) dx r1 rx rs r dy w (by simpa using hw)) ⟨.bl _,H,I,rfl,?_⟩;rw[show its.toArray.any (eIn X.K N H n px)=its.any (eIn X.K N H n px) by simp,zdk I dx rs r dy];exact q'
end
def occ (i j:Str):Bool:=!(Builtin.Str.occurrences j i 0 j.length 1).isEmpty
def rInS (neg:Bool):R2:=fun x y H Q=>∃ i j,x=.str i/\y=.str j/\Q (.bl (neg^^occ i j)) H
def rInA (K:Frag)(neg:Bool):R2:=fun x y H Q=>rInP K neg x y H Q\/rInS neg x y H Q
def gIn (neg:Bool):G2
 |x,.tup ys,z=>(∀ c:OC,x≠c.pv)/\(∃ n,n<=80/\Dp n x/\∀ p∈ys,Dp n p)/\z=.bl (neg^^pin x ys)
 |x,.lst ys,z=>(∀ c:OC,x≠c.pv)/\(∃ n,n<=80/\Dp n x/\∀ p∈ys,Dp n p)/\z=.bl (neg^^pin x ys)
 |.str i,.str j,z=>z=.bl (neg^^occ i j)
 |_,_,_=>False
theorem zqy {K:Frag}{neg:Bool}:Br2 K (rInA K neg) (gIn neg):=by
 intro H A σ x y v w z Q R q1 q2 g c
 have main:∀ ys,((∀ c:OC,x≠c.pv)/\(∃ n,n<=80/\Dp n x/\∀ p∈ys,Dp n p)/\z=.bl (neg^^pin x ys))->(∃ a vs,w=.ref a/\(SqT K H a vs\/H a=some (.lst vs))/\RVs K (AN A) H ys vs)->rInA K neg v w H Q:=by
  rintro ys ⟨nc,⟨n,hn,d1,d2⟩,rfl⟩ h;exact .inl ⟨AN A,x,ys,n,hn,d1,d2,q1.rv nc,h,c _ H (Same.refl H) (.bl _)⟩
 cases y with
 |tup ys=>obtain⟨a,vs,rfl,h1,h2⟩:=q2.tup;exact main ys (by cases x<;>exact g) ⟨a,vs,rfl,.inl h1,h2⟩
 |lst ys=>obtain⟨a,vs,rfl,h1,h2⟩:=q2.lst R;exact main ys (by cases x<;>exact g) ⟨a,vs,rfl,.inr h1,h2⟩
 |str j=>
  cases x<;>first|exact g.elim|skip
  cases g;cases q1.str;cases q2.str;exact .inr ⟨_,_,rfl,rfl,c _ H (Same.refl H) (.bl _)⟩
 |_=>cases x<;>exact g.elim
section
variable {X:Cx}{K:Frag}{a b:Expr}{ua ub:UE}{pos:Pos}{k:Nat}
theorem znF (hK:X.K=K)(hr:Room k X.A):OpR X (compareOp .In) (rInA K false):=by
 subst hK;refine(znD (by have:=hr.un;omega)).or ?_;intro pins s σ H x y v u Q I rx ry h;obtain⟨i,j,e1,e2,q⟩:=h;exact zhi pins s σ H x y v u Q I rx ry ⟨i,j,e1,e2,by simpa [occ] using q⟩
theorem zhh (hK:X.K=K)(hr:Room k X.A):OpR X (compareOp .NotIn) (rInA K true):=by
 subst hK;refine(zhf (by have:=hr.un;omega)).or ?_;intro pins s σ H x y v u Q I rx ry h;obtain⟨i,j,e1,e2,q⟩:=h;exact zef pins s σ H x y v u Q I rx ry ⟨i,j,e1,e2,by simpa [occ] using q⟩
end
def gLt:G2
 |.int i,.int j,z=>z=.bl (decide (i<j))
 |.str i,.str j,z=>z=.bl (decide (i.cps.toList<j.cps.toList))
 |_,_,_=>False
def rLtA:R2:=fun x y H Q=>(rI0 fun i j=>.bl (decide (i<j))) x y H Q\/∃ i j,x=.str i/\y=.str j/\Q (.bl (decide (i.cps.toList<j.cps.toList))) H
theorem zpf {K:Frag}:Br2 K rLtA gLt:=by
 intro H A σ x y v w z Q R q1 q2 g c;cases x<;>cases y<;>first|exact g.elim|skip
 ·cases g;cases q1.int;cases q2.int;exact .inl ⟨_,_,rfl,rfl,c _ H (Same.refl H) (.bl _)⟩
 ·cases g;cases q1.str;cases q2.str;exact .inr ⟨_,_,rfl,rfl,c _ H (Same.refl H) (.bl _)⟩
def isNon:PV->Bool
 |.non=>true
 |_=>false
def gIsN:G2
 |.raw _,_,_=>False
 |x,.non,z=>z=.bl (!isNon x)
 |_,_,_=>False
theorem zlg {K:Frag}{A:AS}{H:Hp}{σ:St}{x:PV}{v:V}(R:Rep K H σ A)(q:RVq K A H x v)(nr:∀ w,x≠.raw w):decide (v=.non)=isNon x:=by
 cases x with
 |non=>cases q.non;rfl
 |bl b=>cases q.bl;rfl
 |int b=>cases q.int;rfl
 |str b=>cases q.str;rfl
 |tup xs=>obtain⟨a,vs,rfl,_⟩:=q.tup;rfl
 |lst xs=>obtain⟨a,vs,rfl,_⟩:=q.lst R;rfl
 |dic xs=>obtain⟨a,vs,rfl,_⟩:=q.dic R;rfl
 |raw w=>exact absurd rfl (nr w)
theorem zpi {K:Frag}:Br2 K (fun x y H Q=>y=.non/\Q (.bl (!decide (x=.non))) H) gIsN:=by
 intro H A σ x y v w z Q R q1 q2 g c;by_cases nr:∀ w,x≠.raw w
 ·cases y with
  |non=>
   cases q2.non;have e:z=.bl (!isNon x):=by cases x<;>first|exact g|exact g.elim
   subst e;refine⟨rfl,?_⟩;rw[zlg R q1 nr];exact c _ H (Same.refl H) (.bl _)
  |_=>cases x<;>exact g.elim
 ·cases x<;>first|exact g.elim|exact absurd (fun w z=>by cases z) nr
section
variable {X:Cx}{K:Frag}{a b:Expr}{ua ub:UE}{pos:Pos}{k:Nat}
theorem e_lt (ha:PE X a (liftQ K ua))(hb:PE X b (liftQ K ub)):PE X (.Compare a [.Lt] [b] pos) (liftV K (u2 gLt ua ub)):=ziH (op_lt.or zeg) zpf ha hb (nomark _)
theorem t_lt (ha:PE X a (liftQ K ua))(hb:PE X b (liftQ K ub)):PT X (.Compare a [.Lt] [b] pos) (liftT K (u2t gLt ua ub)):=zcO (op_lt.or zeg) zpf ha hb (nomark _)
theorem e_gt (ha:PE X a (liftQ K ua))(hb:PE X b (liftQ K ub)):PE X (.Compare a [.Gt] [b] pos) (liftV K (u2 (gI0 fun i j=>.bl (decide (j<i))) ua ub)):=ziH ziW (zmg fun _ _ _ _=>.bl _) ha hb (nomark _)
theorem t_gt (ha:PE X a (liftQ K ua))(hb:PE X b (liftQ K ub)):PT X (.Compare a [.Gt] [b] pos) (liftT K (u2t (gI0 fun i j=>.bl (decide (j<i))) ua ub)):=zcO ziW (zmg fun _ _ _ _=>.bl _) ha hb (nomark _)
theorem zpG (ha:PE X a (liftQ K ua))(hb:PE X b (liftQ K ub)):PT X (.Compare a [.IsNot] [b] pos) (liftT K (u2t gIsN ua ub)):=zcO zla zpi ha hb (nomark _)
end
def gIx:G2
 |.tup xs,.int i,z=>atI xs i=some z
 |.lst xs,.int i,z=>atI xs i=some z
 |.str s,.int i,z=>s.length<=100000/\∃ c,atI s.cps.toList i=some c/\z=.str ⟨#[c]⟩
 |_,_,_=>False
theorem zpn {K:Frag}{N:Addr->Prop}{H:Hp}{xs:List PV}{vs:List V}{i:Int}{z:PV}(r:RVs K N H xs vs)(h:atI xs i=some z):∃ v,atI vs i=some v/\RV K N H z v:=by
 unfold atI at h ⊢;obtain⟨j,hj,hz⟩:=Option.bind_eq_some_iff.mp h;obtain⟨v,hv,rv⟩:=r.at hz;refine⟨v,?_,rv⟩;rw[<- r.len,hj];exact hv
theorem zqx {K:Frag}:Br2 K (rIx K) gIx:=by
 intro H A σ x y v w z Q R q1 q2 g c
 cases y with
 |int i=>
  cases q2.int;cases x<;>first|exact g.elim|skip
  ·cases q1.str;obtain⟨few,ch,hc,rfl⟩:=g;exact .inr (.inr ⟨_,i,ch,rfl,rfl,zbz few,hc,c _ H (Same.refl H) (.str _)⟩)
  ·obtain⟨a,vs,rfl,h1,h2⟩:=q1.tup;obtain⟨v,hv,rv⟩:=zpn h2 g;exact .inr (.inl ⟨a,vs,i,v,rfl,rfl,h1,hv,c _ H (Same.refl H) rv⟩)
  ·obtain⟨a,vs,rfl,h1,h2⟩:=q1.lst R;obtain⟨v,hv,rv⟩:=zpn h2 g;exact .inl ⟨a,vs,i,v,rfl,rfl,SqL.of h1,hv,c _ H (Same.refl H) rv⟩
 |_=>cases x<;>exact g.elim
section
variable {X:Cx}{K:Frag}{a b:Expr}{ua ub:UE}{pos:Pos}
end
end L2
namespace L2
open PySem PySem.Spec PyProof.Rows
namespace HT2
section
variable {prog:Program}{w:World}{A:Around}{E:Value->Shared->Prop}{s:Shared}
theorem getItem_tuple_whole {t sl:Addr}{items:Array Value}{vl vu:Value}{lo hi:Option Int}{Q:Value->Shared->Prop}(ht:IsTup s.heap t items)(hs:s.heap.IsSliceOf sl vl vu .none)(pl:IsPart vl lo)(pu:IsPart vu hi)
  (hw:HT.sIx items.size 0 lo=0/\HT.sIx items.size items.size hi=items.size)(h:Q (.ref t) s):wpAny (model prog w) A (getItem (.ref t) (.ref sl)) Q E s:=by
 obtain⟨os,hos,hcs,hds⟩:=id hs;have hTs:s.TypeIs (.ref sl) "slice":=⟨os,hos,hcs⟩;unfold getItem
 try with_reducible refine wpAny_holding ?_
 first|refine wpAny_bind (wpAny_pure ?_)|skip
 refine wpAny_bind (wpAny_sequenceKey ht.typeIs (by decide) ?_)
 refine wpAny_bind (wpAny_callSpecial?_slot (name:=Str.ofString "__getitem__") ht.typeIs PyProof.Rows.slot_tuple_getitem
  (wpAny_call_entry PyProof.Rows.slot_tuple_getitem ht.typeIs entry_tuple_getitem ?_ (args_tuple_getitem _ _)))
 show wpAny _ _ (Builtin.Tuple.tupleItemsOf (.ref t) >>= _) _ _ s;refine wpAny_bind (tupleItemsOf_ ht ?_);refine wpAny_bind (wpAny_typeOf hTs ?_);rw[if_pos (by decide)];refine wpAny_bind (HT.sliceApplied_gen hs pl pu ?_)
 have hyes:(((HT.sIx items.size 0 lo:Nat):Int)==0&&(1:Int)==1&&(HT.sIx items.size items.size hi-HT.sIx items.size 0 lo)==items.size)=true:=by
  rw[hw.1,hw.2];simp
 show wpAny _ _ (if (((HT.sIx items.size 0 lo:Nat):Int)==0&&(1:Int)==1&&(HT.sIx items.size items.size hi-HT.sIx items.size 0 lo)==items.size)=true then _ else _) _ _ s;rw[if_pos hyes];unfold Builtin.Tuple.tupleIsExact;refine wpAny_bind (wpAny_bind (wpAny_typeOf ht.typeIs (wpAny_pure ?_)));rw[if_pos (by decide)];refine wpAny_bind (wpAny_rule ?_);exact wpAny_pure ⟨_,rfl,wpAny_pure h⟩
end
end HT2
def whole (n:Nat)(lo hi:Option Int):Prop:=HT.sIx n 0 lo=0/\HT.sIx n n hi=n
instance {n:Nat}{lo hi:Option Int}:Decidable (whole n lo hi):=by unfold whole;infer_instance
def rSlTA (K:Frag):V->Option Int->Option Int->Hp->VK->Prop:=fun x lo hi H Q=>∃ a xs,x=.ref a/\SqT K H a xs/\(whole xs.length lo hi->Q (.ref a) H)/\(¬ whole xs.length lo hi->∀ p,H p=none->Q (.ref p) (upd H p (.tup (cutV xs lo hi))))
def cutP (xs:List PV)(lo hi:Option Int):List PV:=(xs.drop (HT.sIx xs.length 0 lo)).take (HT.sIx xs.length xs.length hi-HT.sIx xs.length 0 lo)
theorem zid {K:Frag}{N:Addr->Prop}{H:Hp}{xs:List PV}{vs:List V}(r:RVs K N H xs vs)(lo hi:Option Int):RVs K N H (cutP xs lo hi) (cutV vs lo hi):=by
 unfold cutP cutV;rw[r.len];exact(r.drop _).take _
theorem zic {xs:List PV}{lo hi:Option Int}(h:whole xs.length lo hi):cutP xs lo hi=xs:=by
 unfold cutP;rw[h.1,h.2];simp
section
variable {X:Cx}
theorem sl_tupA:SlR X (rSlTA X.K):=by
 intro pins s σ H x v vl vu lo hi sl Q I rx hs pl pu h;obtain⟨a,xs,rfl,hx,q1,q2⟩:=h;by_cases hw:whole xs.length lo hi
 ·cases rx;obtain⟨its,r,ht,hz⟩:=I.tuple hx;have hlen:its.toArray.size=xs.length:=by rw[List.size_toArray];exact r.length.symm
  refine⟨"tuple",_,PyProof.Rows.slot_tuple_getitem.lookup,ht.typeIs,?_⟩;exact HT2.getItem_tuple_whole ht hs pl pu (by rw[hlen];exact hw) ⟨.ref a,H,I,rfl,q1 hw⟩
 ·exact zmR pins s σ H _ v vl vu lo hi sl Q I rx hs pl pu ⟨a,xs,rfl,hx,hw,q2 hw⟩
end
abbrev UO:=AS->(Option Int->AS->Prop)->Prop
def uNo:UO:=fun A Q=>Q none A
def uSo (ue:UE):UO:=fun A Q=>ue A fun x A1=>∃ i,x=.int i/\Q (some i) A1
def liftO (K:Frag)(u:UO):TO:=fun σ H Q=>∃ A P,Rep K H σ A/\u A P/\∀ o A1 H1,P o A1->Rep K H1 σ A1->Stp A H A1 H1->Q o H1
theorem PO.mono {X:Cx}{e:Option Expr}{t t':TO}(h:PO X e t)(f:∀ σ H Q,t' σ H Q->t σ H Q):PO X e t':=fun pins s σ H Q I w=>h pins s σ H Q I (f _ _ _ w)
def gSl:PV->Option Int->Option Int->PV->Prop
 |.tup xs,lo,hi,z=>z=.tup (cutP xs lo hi)
 |.lst xs,lo,hi,z=>z=.lst (cutP xs lo hi)
 |.str x,lo,hi,z=>x.length<=100000/\z=.str (Txt.slice x lo hi)
 |_,_,_,_=>False
def gSlF:PV->Option Int->Option Int->PV->Prop
 |.lst xs,lo,hi,z=>z=.lst (cutP xs lo hi)
 |_,_,_,_=>False
def uSl (g:PV->Option Int->Option Int->PV->Prop)(ue:UE)(ul uh:UO):UE:=fun A Q=>ue A fun x A1=>ul A1 fun l A2=>uh A2 fun h A3=>A3.rho=A1.rho/\∃ z,g x l h z/\Q z A3
section
variable {X:Cx}{K:Frag}{e:Expr}{ue:UE}{ul uh:UO}{lo hi:Option Expr}{pos p2:Pos}
theorem o_no:PO X none (liftO K uNo):=po_none.mono fun σ H Q ⟨A,P,R,h,c⟩=>c none A H h R (Stp.refl A H)
theorem o_so (h:PE X e (liftV K ue)):PO X (some e) (liftO K (uSo ue)):=(zkV h).mono fun σ H Q ⟨A,P,R,h,c⟩=>⟨A,_,R,h,fun x A1 v H1 p R1 S1 rv=>by
 obtain⟨i,rfl,p⟩:=p;cases rv
 exact⟨i,rfl,c _ A1 H1 p R1 S1⟩⟩
theorem e_sl (hK:X.K=K)(he:PE X e (liftQ K ue))(hl:PO X lo (liftO K ul))(hh:PO X hi (liftO K uh)):PE X (.Subscript e (.Slice lo hi none p2) pos) (liftV K (uSl gSl ue ul uh)):=by
 subst hK;refine(zfy (sl_tupA.or (sl_list.or zmS)) he hl hh).mono fun σ H Q ⟨A,P,R,h,c⟩=>⟨A,_,R,h,fun x A1 v H1 p R1 S1 q1=>⟨A1,_,R1,p,fun l A2 H2 p R2 S2=>⟨A2,_,R2,p,fun u A3 H3 p R3 S3=>?_⟩⟩⟩;obtain⟨e,z,g,p⟩:=p;have q3:=q1.step R1 (S2.trans S3) e;have Sx:=S1.trans (S2.trans S3);cases x<;>first|exact g.elim|skip
 ·cases q3.str;obtain⟨few,rfl⟩:=g;exact .inr (.inr ⟨_,rfl,zbz few,c _ A3 _ H3 p R3 Sx (.str _)⟩)
 ·cases g;obtain⟨a,vs,rfl,h1,h2⟩:=q3.tup;refine .inl ⟨a,vs,rfl,h1,fun hw=>?_,fun _ q hq=>?_⟩
  ·rw[zic (by rw[h2.len];exact hw)] at p;exact c _ A3 _ H3 p R3 Sx (.tup h1 h2)
  ·have s:=zal hq (.tup (cutV vs l u));exact c _ A3 _ _ p (R3.same s) (Sx.trans (Stp.same A3 s)) (.tup (SqT.of zab) ((zid h2 l u).imp (zaz s)))
 ·cases g;obtain⟨a,vs,rfl,h1,h2⟩:=q3.lst R3;refine .inr (.inl ⟨a,vs,rfl,SqL.of h1,fun q hq=>?_⟩);have s:=zal hq (.lst (cutV vs l u));exact c _ A3 _ _ p (R3.same s) (Sx.trans (Stp.same A3 s)) (.lst (R3.new hq) zab ((zid h2 l u).imp (zaz s)))
theorem zgd (hK:X.K=K)(he:PE X e (liftQ K ue))(hl:PO X lo (liftO K ul))(hh:PO X hi (liftO K uh)):PE X (.Subscript e (.Slice lo hi none p2) pos) (liftF K (uSl gSlF ue ul uh)):=by
 subst hK;refine(zfy sl_list he hl hh).mono fun σ H Q ⟨A,P,R,h,c⟩=>⟨A,_,R,h,fun x A1 v H1 p R1 S1 q1=>⟨A1,_,R1,p,fun l A2 H2 p R2 S2=>⟨A2,_,R2,p,fun u A3 H3 p R3 S3=>?_⟩⟩⟩;obtain⟨e,z,g,p⟩:=p;have q3:=q1.step R1 (S2.trans S3) e;cases x<;>first|exact g.elim|skip
 cases g;obtain⟨a,vs,rfl,h1,h2⟩:=q3.lst R3;exact⟨a,vs,rfl,SqL.of h1,fun q hq=>c _ A3 _ H3 _ p R3 (S1.trans (S2.trans S3)) ⟨q,.lst _,rfl,rfl,hq,zal hq _,_,zab,zid h2 l u⟩⟩
def uRev (ue:UE):UE:=fun A Q=>ue A fun x A1=>∃ xs,x=.lst xs/\Q (.lst xs.reverse) A1
theorem zqr {j:Nat}{p3 p4:Pos}(hK:X.K=K)(he:PE X e (liftQ K ue)):PE X (.Subscript e (.Slice none none (some (.UnaryOp .USub (.Constant (.int 1) j p3) p4)) p2) pos) (liftF K (uRev ue)):=
 (zns hK he).mono fun σ H Q ⟨A,P,R,h,c⟩=>⟨A,_,R,h,fun x A1 v H1 p R1 S1 q1=>by
  obtain⟨xs,rfl,p⟩:=p;obtain⟨a,vs,rfl,h1,h2⟩:=q1.lst R1
  exact⟨a,vs,rfl,SqL.of h1,fun q hq=>c _ A1 _ H1 _ p R1 S1 ⟨q,.lst _,rfl,rfl,hq,zal hq _,_,zab,h2.rev⟩⟩⟩
end
abbrev G1:=PV->PV->Prop
def Br1 (K:Frag)(r:List V->Hp->VK->Prop)(g:G1):Prop:=∀(H:Hp)(A:AS)(σ:St)(x:PV)(v:V)(z:PV)(Q:VK),Rep K H σ A->RVq K A H x v->g x z->(∀ v' H',Same H H'->RV K (AN A) H' z v'->Q v' H')->r [v] H Q
def Br1F (K:Frag)(r:List V->Hp->VK->Prop)(g:G1):Prop:=∀(H:Hp)(A:AS)(σ:St)(x:PV)(v:V)(z:PV)(Q:VK),Rep K H σ A->RVq K A H x v->g x z->(∀ v' H',FrV K (AN A) H H' z v'->Q v' H')->r [v] H Q
def u1 (g:G1)(ue:UE):UE:=fun A Q=>ue A fun x A1=>∃ z,g x z/\Q z A1
section
variable {X:Cx}{K:Frag}{e:Expr}{ue:UE}{x:Str}{p pos:Pos}{id T:String}{r:List V->Hp->VK->Prop}{g:G1}
theorem c1 (br:Br1 K r g):∀ σ H Q,liftV K (u1 g ue) σ H Q->tCB r (tCons (liftQ K ue) tNil) σ H Q:=fun σ H Q ⟨A,P,R,h,c⟩=>⟨A,_,R,h,fun x A1 v H1 p R1 S1 q1=>by
 obtain⟨z,g,p⟩:=p
 exact br H1 A1 σ x v z Q R1 q1 g fun v' H' s rv=>c z A1 v' H' p (R1.same s) (S1.trans (Stp.same A1 s)) rv⟩
theorem c1F (br:Br1F K r g):∀ σ H Q,liftF K (u1 g ue) σ H Q->tCB r (tCons (liftQ K ue) tNil) σ H Q:=fun σ H Q ⟨A,P,R,h,c⟩=>⟨A,_,R,h,fun x A1 v H1 p R1 S1 q1=>by
 obtain⟨z,g,p⟩:=p
 exact br H1 A1 σ x v z Q R1 q1 g fun v' H' f=>c z A1 v' H1 H' p R1 S1 f⟩
theorem e_b1 (hc:CallR X (.builtin id) r)(br:Br1 K r g)(hv:bootBuiltins x=some (.builtin id))(hm:X.mg x=none)(he:PE X e (liftQ K ue))(hg:Gl X x:=by rfl)(hn:x≠"__name__":=by decide)(hd:(x==("__debug__":Str))=false:=by decide)(hs:starEach [e] X.env=[(false,eval e X.env)]:=by rfl) :
  PE X (.Call (.Name x p) [e] [] pos) (liftV K (u1 g ue)):=(zau hc hg hm hv (zaf he pa_nil hs) hn hd hs).mono (c1 br)
theorem zoQ (hc:CallR X (.builtin id) r)(br:Br1F K r g)(hv:bootBuiltins x=some (.builtin id))(hm:X.mg x=none)(he:PE X e (liftQ K ue))(hg:Gl X x:=by rfl)(hn:x≠"__name__":=by decide)(hd:(x==("__debug__":Str))=false:=by decide)(hs:starEach [e] X.env=[(false,eval e X.env)]:=by rfl) :
  PE X (.Call (.Name x p) [e] [] pos) (liftF K (u1 g ue)):=(zau hc hg hm hv (zaf he pa_nil hs) hn hd hs).mono (c1F br)
theorem e_t1 (hc:CallR X (.type T) r)(br:Br1 K r g)(hv:bootBuiltins x=some (.type T))(hm:X.mg x=none)(he:PE X e (liftQ K ue))(hg:Gl X x:=by rfl)(hn:x≠"__name__":=by decide)(hd:(x==("__debug__":Str))=false:=by decide)(hs:starEach [e] X.env=[(false,eval e X.env)]:=by rfl) :
  PE X (.Call (.Name x p) [e] [] pos) (liftV K (u1 g ue)):=(zbm hc hg hm hv (zaf he pa_nil hs) hn hd hs).mono (c1 br)
theorem zoM (hc:CallR X (.type T) r)(br:Br1F K r g)(hv:bootBuiltins x=some (.type T))(hm:X.mg x=none)(he:PE X e (liftQ K ue))(hg:Gl X x:=by rfl)(hn:x≠"__name__":=by decide)(hd:(x==("__debug__":Str))=false:=by decide)(hs:starEach [e] X.env=[(false,eval e X.env)]:=by rfl) :
  PE X (.Call (.Name x p) [e] [] pos) (liftF K (u1 g ue)):=(zbm hc hg hm hv (zaf he pa_nil hs) hn hd hs).mono (c1F br)
end
end L2
namespace L2
open PySem PySem.Spec PyProof.Rows
section
variable {X:Cx}{K:Frag}{e:Expr}{ue:UE}{p pos:Pos}{k:Nat}
def gLen:G1
 |.tup xs,z=>z=.int xs.length
 |.lst xs,z=>z=.int xs.length
 |.str x,z=>x.length<=100000/\z=.int x.length
 |_,_=>False
theorem zpg:Br1 K (fun xs H Q=>∃ x n,xs=[x]/\LenV K x H n/\Q (.int n) H) gLen:=by
 intro H A σ x v z Q R q1 g c;cases x<;>first|exact g.elim|skip
 ·obtain⟨few,rfl⟩:=g;cases q1.str;exact⟨_,_,rfl,⟨zbz few,rfl⟩,c _ H (Same.refl H) (.int _)⟩
 ·cases g;obtain⟨a,vs,rfl,h1,h2⟩:=q1.tup;refine⟨_,_,rfl,.inr ⟨vs,h1,rfl⟩,?_⟩;rw[<- h2.len];exact c _ H (Same.refl H) (.int _)
 ·cases g;obtain⟨a,vs,rfl,h1,h2⟩:=q1.lst R;refine⟨_,_,rfl,.inl ⟨vs,SqL.of h1,rfl⟩,?_⟩;rw[<- h2.len];exact c _ H (Same.refl H) (.int _)
theorem zaW (hK:X.K=K)(hm:X.mg "len"=none)(he:PE X e (liftQ K ue))(hg:Gl X "len":=by rfl)(hs:starEach [e] X.env=[(false,eval e X.env)]:=by rfl):PE X (.Call (.Name "len" p) [e] [] pos) (liftV K (u1 gLen ue)):=by
 subst hK;exact e_b1 zjD zpg PySem.boot_len hm he hg (hs:=hs)
inductive Ty where
 |int|str|bool|tuple|list|dict
def Ty.n:Ty->String
 |.int=>"int"
 |.str=>"str"
 |.bool=>"bool"
 |.tuple=>"tuple"
 |.list=>"list"
 |.dict=>"dict"
def isTy:Ty->PV->Option Bool
 |_,.raw _=>none
 |.int,.int _=>some true
 |.int,.bl _=>some true
 |.str,.str _=>some true
 |.bool,.bl _=>some true
 |.tuple,.tup _=>some true
 |.list,.lst _=>some true
 |.dict,.dic _=>some true
 |_,_=>some false
theorem zlq {K:Frag}:∀(t:Ty)(T:String),T∈["NoneType","bool","int","str","list","tuple","dict"]->PySem.W.kitOne K (.type T) (.type t.n)=some (T==t.n||(t.n=="int"&&T=="bool")):=by
 intro t T h;simp only[List.mem_cons,List.not_mem_nil,or_false] at h;cases t<;>(rcases h with rfl|rfl|rfl|rfl|rfl|rfl|rfl)<;>with_unfolding_all rfl
theorem zfN {pins:List (Addr×Obj)}{σ:St}{H:Hp}{s:Shared}{A:Around}{E:Value->Shared->Prop}{Q:Value->Shared->Prop}{c:Value}{b:Bool}{a:Addr}{vs:List V}(I:Inv X pins σ H s)(h1:SqT X.K H a vs)(e:PySem.W.kitOne X.K (.type "tuple") c=some b)(h:∀ tk,Q (.bool b) { s with toks:=tk }) :
  wpAny (model X.prog X.w) A (call (.builtin "isinstance") [.ref a,c]) Q E s:=by
 obtain⟨its,_,⟨o,g1,g2,_⟩,_⟩:=I.tuple h1;exact PySem.W.kia_one PySem.W.kitx_tuple I.kIn ⟨o,g1,g2⟩ e (fun z=>nomatch z) h
theorem zhV {pins:List (Addr×Obj)}{σ:St}{H:Hp}{s:Shared}{A:Around}{E:Value->Shared->Prop}{Q:Value->Shared->Prop}{c:Value}{b:Bool}{a:Addr}{kvs:List (Key×V)}(I:Inv X pins σ H s)(h1:Rd H a (.dK kvs))(e:PySem.W.kitOne X.K (.type "dict") c=some b)(h:∀ tk,Q (.bool b) { s with toks:=tk }) :
  wpAny (model X.prog X.w) A (call (.builtin "isinstance") [.ref a,c]) Q E s:=by
 obtain⟨_,_,vs,_,ob,es,ep,g1,g2,_⟩:=h1.ok I.hok;exact PySem.W.kia_one PySem.W.kitx_dict I.kIn ⟨ob,g1,g2.1⟩ e (fun z=>nomatch z) h
def rInst (K:Frag):List V->Hp->VK->Prop:=fun xs H Q=>∃(x:V)(t:Value)(n:Ty)(b:Bool),xs=[x,.ty n.n]/\(TyOf K H x t\/(∃ a vs,x=.ref a/\t=.type "tuple"/\SqT K H a vs)\/∃ a kvs,x=.ref a/\t=.type "dict"/\Rd H a (.dK kvs))/\PySem.W.kitOne K t (.type n.n)=some b/\Q (.bl b) H
theorem zim:CallR X (.builtin "isinstance") (rInst X.K):=by
 intro pins s σ H xs us Q I r h;obtain⟨x,t,n,b,rfl,ty,e,q⟩:=h;obtain⟨u,v,rfl,ru,rv⟩:=ziu r;cases (show v=Value.type n.n from rv);rcases ty with ty|⟨a,vs,rfl,rfl,h1⟩|⟨a,vs,rfl,rfl,h1⟩
 ·exact zhD I ru ty e fun tk=>⟨.bl b,H,I.tok tk,rfl,q⟩
 ·cases ru;exact zfN I h1 e fun tk=>⟨.bl b,H,I.tok tk,rfl,q⟩
 ·cases ru;exact zhV I h1 e fun tk=>⟨.bl b,H,I.tok tk,rfl,q⟩
def uInst (t:Ty)(ue:UE):UE:=fun A Q=>ue A fun x A1=>∃ b,isTy t x=some b/\Q (.bl b) A1
theorem zhP (t:Ty){T:Str}{pt:Pos}(hK:X.K=K)(hm:X.mg "isinstance"=none)(hT:X.mg T=none)(hv:bootBuiltins T=some (.type t.n))(he:PE X e (liftQ K ue))(hg:Gl X "isinstance":=by rfl)(hgT:Gl X T:=by rfl)(hn:T≠"__name__":=by decide)(hd:(T==("__debug__":Str))=false:=by decide)
  (hs:starEach [e,.Name T pt] X.env=(false,eval e X.env)::starEach [.Name T pt] X.env:=by rfl)(hs2:starEach [.Name T pt] X.env=[(false,eval (.Name T pt) X.env)]:=by rfl)(hpl:(backTo pos (starEach [.Name T pt] X.env)).any (·.1)=false:=by rfl) :
  PE X (.Call (.Name "isinstance" p) [e,.Name T pt] [] pos) (liftV K (uInst t ue)):=by
 subst hK;refine(zau zim hg hm PyProof.Rows.boot_isinstance (zaf he (zaf (zkY (v:=.ty t.n) hgT hT hv rfl hn hd) pa_nil hs2) hs) (by decide) (by decide) hs hpl).mono fun σ H Q ⟨A,P,R,h,c⟩=>⟨A,_,R,h,fun x A1 v H1 p R1 S1 q1=>?_⟩;obtain⟨b,eb,p⟩:=p;have fin:=c _ A1 _ H1 p R1 S1 (.bl b);have one:∀ T,T∈["NoneType","bool","int","str","list","tuple","dict"]->(T==t.n||(t.n=="int"&&T=="bool"))=b->PySem.W.kitOne X.K (.type T) (.type t.n)=some b:=fun T h e=>by rw[zlq t T h,e]
 cases x with
 |raw w=>cases t<;>cases eb
 |non=>cases q1.non;exact⟨_,_,t,b,rfl,.inl .non,one _ (by simp) (by cases t<;>cases eb<;>rfl),fin⟩
 |bl y=>cases q1.bl;exact⟨_,_,t,b,rfl,.inl (.bl _),one _ (by simp) (by cases t<;>cases eb<;>rfl),fin⟩
 |int y=>cases q1.int;exact⟨_,_,t,b,rfl,.inl (.int _),one _ (by simp) (by cases t<;>cases eb<;>rfl),fin⟩
 |str y=>cases q1.str;exact⟨_,_,t,b,rfl,.inl (.str _),one _ (by simp) (by cases t<;>cases eb<;>rfl),fin⟩
 |tup y=>obtain⟨a,vs,rfl,h1,_⟩:=q1.tup;exact⟨_,_,t,b,rfl,.inr (.inl ⟨a,vs,rfl,rfl,h1⟩),one _ (by simp) (by cases t<;>cases eb<;>rfl),fin⟩
 |lst y=>obtain⟨a,vs,rfl,h1,_⟩:=q1.lst R1;exact⟨_,_,t,b,rfl,.inl (.lst h1),one _ (by simp) (by cases t<;>cases eb<;>rfl),fin⟩
 |dic y=>obtain⟨a,vs,rfl,h1,_⟩:=q1.dic R1;exact⟨_,_,t,b,rfl,.inr (.inr ⟨a,vs,rfl,rfl,h1⟩),one _ (by simp) (by cases t<;>cases eb<;>rfl),fin⟩
def gTuple:G1
 |.tup xs,z=>z=.tup xs
 |.lst xs,z=>z=.tup xs
 |_,_=>False
def gList:G1
 |.tup xs,z=>z=.lst xs
 |.lst xs,z=>z=.lst xs
 |_,_=>False
theorem zjF:Br1 K (fun xs H Q=>∃ p ys,xs=[.ref p]/\((SqL K H p ys/\∀ l,H l=none->Q (.ref l) (upd H l (.tup ys)))\/(SqT K H p ys/\Q (.ref p) H))) gTuple:=by
 intro H A σ x v z Q R q1 g c;cases x<;>first|exact g.elim|skip
 ·cases g;obtain⟨a,vs,rfl,h1,h2⟩:=q1.tup;exact⟨a,vs,rfl,.inr ⟨h1,c _ H (Same.refl H) (.tup h1 h2)⟩⟩
 ·cases g;obtain⟨a,vs,rfl,h1,h2⟩:=q1.lst R;refine⟨a,vs,rfl,.inl ⟨SqL.of h1,fun l hl=>?_⟩⟩;have s:=zal hl (.tup vs);exact c _ _ s (.tup (SqT.of zab) (h2.imp (zaz s)))
theorem zmf:Br1F K (fun xs H Q=>∃ p ys,xs=[.ref p]/\(SqL K H p ys\/SqT K H p ys)/\∀ l,H l=none->Q (.ref l) (upd H l (.lst ys))) gList:=by
 intro H A σ x v z Q R q1 g c;cases x<;>first|exact g.elim|skip
 ·cases g;obtain⟨a,vs,rfl,h1,h2⟩:=q1.tup;exact⟨a,vs,rfl,.inr h1,fun l hl=>c _ _ ⟨l,.lst _,rfl,rfl,hl,zal hl _,_,zab,h2⟩⟩
 ·cases g;obtain⟨a,vs,rfl,h1,h2⟩:=q1.lst R;exact⟨a,vs,rfl,.inl (SqL.of h1),fun l hl=>c _ _ ⟨l,.lst _,rfl,rfl,hl,zal hl _,_,zab,h2⟩⟩
theorem zaN (hK:X.K=K)(hm:X.mg "tuple"=none)(he:PE X e (liftQ K ue))(hg:Gl X "tuple":=by rfl)(hs:starEach [e] X.env=[(false,eval e X.env)]:=by rfl):PE X (.Call (.Name "tuple" p) [e] [] pos) (liftV K (u1 gTuple ue)):=by
 subst hK;exact e_t1 zdU zjF PyProof.Rows.boot_tuple hm he hg (hs:=hs)
theorem e_list (hK:X.K=K)(hm:X.mg "list"=none)(he:PE X e (liftQ K ue))(hg:Gl X "list":=by rfl)(hs:starEach [e] X.env=[(false,eval e X.env)]:=by rfl):PE X (.Call (.Name "list" p) [e] [] pos) (liftF K (u1 gList ue)):=by
 subst hK;exact zoM zeG zmf PyProof.Rows.boot_list hm he hg (hs:=hs)
def gInt:G1
 |.int i,z=>z=.int i
 |.bl b,z=>z=.int (if b then 1 else 0)
 |_,_=>False
theorem zpj:Br1 K (fun xs H Q=>(∃ i,xs=[.int i]/\Q (.int i) H)\/∃ k,xs=[.bl k]/\Q (.int (if k then 1 else 0)) H) gInt:=by
 intro H A σ x v z Q R q1 g c;cases x<;>first|exact g.elim|skip
 ·cases g;cases q1.bl;exact .inr ⟨_,rfl,c _ H (Same.refl H) (.int _)⟩
 ·cases g;cases q1.int;exact .inl ⟨_,rfl,c _ H (Same.refl H) (.int _)⟩
theorem zgf (hm:X.mg "int"=none)(he:PE X e (liftQ K ue))(hg:Gl X "int":=by rfl)(hs:starEach [e] X.env=[(false,eval e X.env)]:=by rfl):PE X (.Call (.Name "int" p) [e] [] pos) (liftV K (u1 gInt ue)):=e_t1 zil zpj PyProof.Rows.boot_int hm he hg (hs:=hs)
def uNeg (ue:UE):UE:=fun A Q=>ue A fun x A1=>∃ i,x=.int i/\Q (.int (-i)) A1
theorem zlP (he:PE X e (liftV K ue)):PE X (.UnaryOp .USub e pos) (liftV K (uNeg ue)):=(znq zjM he).mono fun σ H Q ⟨A,P,R,h,c⟩=>⟨A,_,R,h,fun x A1 v H1 p R1 S1 rv=>by
 obtain⟨i,rfl,p⟩:=p;cases rv
 exact⟨i,rfl,c _ A1 _ H1 p R1 S1 (.int _)⟩⟩
end
end L2
namespace HR
open PySem PyProof.Rows PySem.SeqAt
section
open PySem.AutoSeq1 (wpAny_loadPart')
open PySem.MeetsSeq PySem.MeetsSeq2 PySem.MeetsSeq3
theorem zdH (l:Addr)(items:Array Value)(n:Nat)(x:Value)(e:Value->Bool)(j:Nat)(hj:j<items.size)(hit:e items[j]=true)(k:Nat)(hs1:items.size<=sizeLine) :
  ∀ i:Nat,j-i=k->i<=j->(∀ m (hm:m<items.size),i<=m->m<j->e items[m]=false)->Meets (Builtin.«list.remove.loop» ⟨[.ref l,x,rawInt i],[]⟩)
   (fun A R s=>(∀ y,y∈items->EqAt A.in1 s y x (e y))/\s.heap.get? l=some { cls:=.type "list",dict:=none,data:=.seq items n,slots:=#[] }/\R (.ok (.ret .none)) { s with heap:=s.heap.update l (Obj.mapSeq fun xs=>xs.eraseIdxIfInBounds j) }):=by
 induction k with
 |zero=>
  intro i hk hij hno prog w A R s h;obtain⟨hp,g,d,tk,os⟩:=s;obtain⟨he,hl,h⟩:=h;have hij':i=j:=by omega
  subst hij';wp_walk using wpAny_loadPart' hl
  have hi:items[((i:Nat):Int).toNat]?=some items[i]:=by simp [hj]
  rw[hi];refine wpAny_bind (he _ (Array.getElem_mem hj) prog w _ _ ?_);rw[hit];have hz':(items.eraseIdxIfInBounds i).size<=sizeLine+1:=Nat.le_trans (size_erased items _) (Nat.le_succ_of_le hs1);wp_walk using (wpAny_updateSeq hl rfl (hz:=hs1) (_hz':=hz')),wpAny_loadPart' hl
  simpa using h
 |succ k ih=>
  intro i hk hij hno prog w A R s h;obtain⟨hp,g,d,tk,os⟩:=s;obtain⟨he,hl,h⟩:=h;have hlt:i<items.size:=by omega
  wp_walk using wpAny_loadPart' hl
  have hi:items[((i:Nat):Int).toNat]?=some items[i]:=by simp [hlt]
  have hc:((i:Int)+1)=((i+1:Nat):Int):=by push_cast;rfl
  rw[hi];refine wpAny_bind (he _ (Array.getElem_mem hlt) prog w _ _ ?_);rw[hno i hlt (Nat.le_refl _) (by omega)];wp_walk;rw[hc]
  exact⟨plainId_quiet plain_remove_loop _,codeAny_builtin entry_remove_loop (by
   rw[Around.under_plainId plain_remove_loop _]
   exact ih (i+1) (by omega) (by omega) (fun m hm h1 h2=>hno m hm (by omega) h2) prog w A R _ ⟨he,hl,h⟩)⟩
theorem list_removeAt (l:Addr)(items:Array Value)(n:Nat)(x:Value)(e:Value->Bool)(j:Nat)(hj:j<items.size)
  (hit:e items[j]=true)(hno:∀ m (hm:m<items.size),m<j->e items[m]=false)(hs1:items.size<=sizeLine) :
  Meets (Builtin.«list.remove» ⟨[.ref l,x],[]⟩)
   (fun A R s=>(∀ y,y∈items->EqAt A.in1 s y x (e y))/\s.heap.get? l=some { cls:=.type "list",dict:=none,data:=.seq items n,slots:=#[] }/\R (.ok (.ret .none)) { s with heap:=s.heap.update l (Obj.mapSeq fun xs=>xs.eraseIdxIfInBounds j) }):=by
 intro prog w A R s h;obtain⟨hp,g,d,tk,os⟩:=s;obtain⟨he,hl,h⟩:=h;wp_walk using wpAny_loadPart' hl
 exact⟨plainId_quiet plain_remove_loop _,codeAny_builtin entry_remove_loop (by
  rw[Around.under_plainId plain_remove_loop _]
  exact zdH l items n x e j hj hit _ hs1 0 rfl (Nat.zero_le _) (fun m hm _ h2=>hno m hm h2) prog w A R _ ⟨he,hl,h⟩)⟩
end
end HR
namespace L2
open PySem PySem.Spec PyProof.Rows
section
variable {X:Cx}
def rRemove (K:Frag):V->List V->Hp->VK->Prop:=fun x vs H Q=>∃ l xs y N ps py n j,x=.ref l/\vs=[y]/\H l=some (.lst xs)/\n<=80/\Dp n py/\(∀ p∈ps,Dp n p)/\RV K N H py y/\RVs K N H ps xs /\
 (∃ p,ps[j]?=some p/\peq p py=true)/\(∀ m p,m<j->ps[m]?=some p->peq p py=false)/\Q .non (upd H l (.lst (xs.eraseIdx j)))
theorem zho (hu:X.A.units+100<cLine):MtM X "list.remove" (rRemove X.K):=by
 intro pins s σ H x vs v us Q I rx rv h;obtain⟨l,xs,y,N,ps,py,n,j,rfl,rfl,hH,hn,dy,dp,ry,rs,⟨p,hp,hit⟩,hno,q⟩:=h;cases rx;obtain⟨u,rfl,ru⟩:=rv.one;obtain⟨z,its,k,r,hl,e⟩:=I.lstM hH;have ll:=r.length;have lp:=rs.len;have hjp:j<ps.length:=(List.getElem?_eq_some_iff.mp hp).1;have hj:j<its.toArray.size:=by rw[List.size_toArray];omega
 have each:∀ m (hm:m<its.toArray.size) p,ps[m]?=some p->eIn X.K N H n py its.toArray[m]=peq p py:=by
  intro m hm p hp;obtain⟨w,hw,rw'⟩:=rs.at hp;obtain⟨u',hu',ru'⟩:=r.get hw
  have e1:its.toArray[m]=u':=by
   have hm':m<its.length:=by simpa using hm
   rw[List.getElem?_eq_getElem hm'] at hu';simpa using Option.some.inj hu'
  rw[e1];exact zhS I dy (dp p (List.mem_of_getElem? hp)) rw' ru'
 refine call_meets F.slot_list_remove ⟨_,e,rfl⟩ F.entry_list_remove (F.args_list_remove_2 _ _) (HR.list_removeAt l its.toArray k u (eIn X.K N H n py) j hj (by rw[each j hj p hp];exact hit) (fun m hm hlt=>?_) (by rw[List.size_toArray];omega)) ⟨fun w hw=>?_,e,?_⟩
 ·have hmp:m<ps.length:=by rw[List.size_toArray] at hm;omega
  rw[each m hm ps[m] (List.getElem?_eq_getElem hmp)];exact hno m _ hlt (List.getElem?_eq_getElem hmp)
 ·exact zcd I (by rw[zaF];omega) dy ry ru rs r dp w (by simpa using hw)
 ·refine⟨.non,_,I.lset (its':=its.eraseIdx j) hH e ?_ ?_ ?_,rfl,q⟩
  ·have hj':j<its.length:=by simpa using hj
   simp [Array.eraseIdxIfInBounds,hj']
  ·exact r.eraseIdx j
  ·have:=List.length_eraseIdx_le xs j;omega
end
theorem RVs.erase {K:Frag}{N:Addr->Prop}{H:Hp}{xs:List PV}{vs:List V}(h:RVs K N H xs vs)(j:Nat):RVs K N H (xs.eraseIdx j) (vs.eraseIdx j):=by
 induction vs generalizing xs j with
 |nil=>cases h;exact .nil
 |cons u vs ih=>
  cases h with
  |cons h1 h2=>
   cases j with
   |zero=>exact h2
   |succ j=>exact .cons h1 (ih h2 j)
theorem RVs.last {K:Frag}{N:Addr->Prop}{H:Hp}{xs:List PV}{x:PV}{vs:List V}(h:RVs K N H (xs++[x]) vs):∃ ws w,vs=ws++[w]/\RVs K N H xs ws/\RV K N H x w:=by
 induction xs generalizing vs with
 |nil=>cases h with|cons h1 h2=>cases h2;exact⟨[],_,rfl,.nil,h1⟩
 |cons y ys ih=>
  cases h with
  |cons h1 h2=>
   obtain⟨ws,w,rfl,r1,r2⟩:=ih h2;exact⟨_::ws,w,rfl,.cons h1 r1,r2⟩
def uApp (i:Nat)(ue:UE):UE:=fun A Q=>match A.rho[i]? with
 |some (some (.own a (.lst _)))=>ue A fun r A1=>∃ xs,A1.rho[i]?=some (some (.own a (.lst xs)))/\xs.length<=1000000/\Q .non (put A1 i (.own a (.lst (xs++[r]))))
 |_=>False
def uPop (i:Nat):UE:=fun A Q=>match A.rho[i]? with
 |some (some (.own a (.lst xs)))=>∃ ys y,xs=ys++[y]/\Q y (put A i (.own a (.lst ys)))
 |_=>False
def uExt (i:Nat)(ue:UE):UE:=fun A Q=>match A.rho[i]? with
 |some (some (.own a (.lst _)))=>ue A fun r A1=>∃ xs ys,A1.rho[i]?=some (some (.own a (.lst xs)))/\(r=.lst ys\/r=.tup ys)/\xs.length+ys.length<=1000000/\Q .non (put A1 i (.own a (.lst (xs++ys))))
 |_=>False
def uRemove (i:Nat)(ue:UE):UE:=fun A Q=>match A.rho[i]? with
 |some (some (.own a (.lst _)))=>ue A fun r A1=>∃ xs j,A1.rho[i]?=some (some (.own a (.lst xs)))/\(∃ n,n<=80/\Dp n r/\∀ x∈xs,Dp n x)/\(∃ p,xs[j]?=some p/\peq p r=true)/\(∀(m:Nat) p,m<j->xs[m]?=some p->peq p r=false)/\Q .non (put A1 i (.own a (.lst (xs.eraseIdx j))))
 |_=>False
theorem zfV {X:Cx}:MtM X "list.extend" (fun x vs H Q=>∃ l b xs zs,x=.ref l/\vs=[.ref b]/\H l=some (.lst xs)/\SqT X.K H b zs/\xs.length+zs.length<=sizeLine/\Q .non (upd H l (.lst (xs++zs)))):=by
 intro pins s σ H x vs v us Q I rx rv h;obtain⟨l,b,xs,zs,rfl,rfl,hH,hB,hz,q⟩:=h;cases rx;obtain⟨u,rfl,ru⟩:=rv.one;cases ru;obtain⟨z,its,n,r,hl,e⟩:=I.lstM hH;obtain⟨its2,r2,e2,z2⟩:=I.tuple hB;have hl2:=r2.length;obtain⟨ob,e2,c2,n2,d2⟩:=e2;have hsz:its.toArray.size+its2.toArray.size<=sizeLine:=by rw[List.size_toArray,List.size_toArray];omega
 have hlong:¬ (!its.toArray.isEmpty&&Builtin.List.listTooLong (its.toArray.size+its2.toArray.size))=true:=by
  rw[notLongL hsz,Bool.and_false];exact Bool.false_ne_true
 refine wpAny_call_entry PySem.F.slot_list_extend ⟨_,e,rfl⟩ PySem.F.entry_list_extend ?_ (PySem.F.args_list_extend_2 _ _);show wpAny _ _ (Builtin.List.listExtendWith (.ref l) (.ref b) .none) _ _ s;unfold Builtin.List.listExtendWith;refine wpAny_bind (wpAny_typeOf (T:="tuple") ⟨ob,e2,c2⟩ ?_);have h3:(Value.type "tuple"==Value.type "tuple")=true:=by decide
 simp only[h3,Bool.or_true,if_true];unfold Builtin.List.listItems;refine wpAny_bind (wpAny_bind (wpAny_seqItems e2 d2 (wpAny_pure ?_)));refine wpAny_bind (wpAny_bind (wpAny_seqItems e rfl (wpAny_pure ?_)));rw[if_neg hlong];show wpAny _ _ (updateSeq l (·++its2.toArray) >>= _) _ _ s;refine wpAny_bind (wpAny_updateSeq e rfl ?_ (by rw[List.size_toArray];omega) (by rw[Array.size_append];omega));refine wpAny_pure ⟨_,rfl,.non,_,I.lset (its':=its++its2) (t':=s.toks) hH e (by simp) (r.append r2) ?_,rfl,q⟩;rw[List.length_append];omega
theorem MtM.or {X:Cx}{id:String}{r r':V->List V->Hp->VK->Prop}(h:MtM X id r)(h':MtM X id r'):MtM X id (fun x xs H Q=>r x xs H Q\/r' x xs H Q):=fun pins s σ H x xs v us Q I rx rs q=>q.elim (h pins s σ H x xs v us Q I rx rs) (h' pins s σ H x xs v us Q I rx rs)
theorem zbS {n:Nat}(h:n<=1000000):n<=sizeLine:=Nat.le_trans h (by decide)
section
variable {X:Cx}{K:Frag}{e:Expr}{ue:UE}{apos cpos npos:Pos}{k:Nat}
theorem zbU (hK:X.K=K)(i:Nat){x:Str}(he:PE X e (liftV K ue))(hN:X.N[i]?=some x:=by rfl)(hv:Vis X.env.scope x:=by first|exact Or.inl rfl|exact Or.inr (Or.inl rfl)|exact Or.inr (Or.inr rfl))(hd:(x==("__debug__":Str))=false:=by decide)(hcd:(x==("__classdict__":Str))=false:=by decide)
  (hbase:attributeBase (.Name x npos) "append" X.env (eval (.Name x npos) X.env)=eval (.Name x npos) X.env:=by rfl)
  (hfew:((backTo cpos (starEach [e] X.env)).all (fun x=>!x.1)&&(backToKw cpos (keywordEach [] X.env)).all (fun x=>x.1.isSome)&&decide ([e].length+([]:List Keyword).length+(if ([]:List Keyword).isEmpty then 0 else 1)<30))=true:=by rfl)
  (hline:(apos.endLine==cpos.line)=true:=by rfl)(hs:starEach [e] X.env=[(false,eval e X.env)]:=by rfl):PE X (.Call (.Attribute (.Name x npos) "append" apos) [e] [] cpos) (liftV K (uApp i ue)):=by
 subst hK;refine(zfT PySem.F.plainAttrs_list PySem.F.slot_list_append PySem.F.type_list_append zeh (zaM hN hv hd hcd) (zaf he pa_nil hs) hbase hfew hline hs rfl).mono fun σ H Q ⟨A,P,R,h,c⟩=>?_;unfold uApp at h
 split at h
 ·rename_i a ys hx;obtain⟨v,ev,rfl,nb,vs,h1,h2⟩:=R.sl i _ hx;refine⟨_,ev,.inl ⟨rfl,_,SqL.of h1⟩,A,_,R,h,fun r A1 w H1 p R1 S1 rw'=>?_⟩;obtain⟨xs,hA,few,p⟩:=p;obtain⟨_,_,_,_,us,g1,g2⟩:=R1.sl i _ hA;have:=g2.len;obtain⟨R2,S2⟩:=R1.turn hA (g2.app (.cons rw' .nil));exact⟨a,us,w,rfl,rfl,g1,Nat.lt_of_le_of_lt (by omega:us.length<=1000000) (by decide),c _ _ _ _ p R2 (S1.trans S2) .non⟩
 ·exact h.elim
theorem zoN (hK:X.K=K)(i:Nat){x:Str}(hN:X.N[i]?=some x:=by rfl)(hv:Vis X.env.scope x:=by first|exact Or.inl rfl|exact Or.inr (Or.inl rfl)|exact Or.inr (Or.inr rfl))(hd:(x==("__debug__":Str))=false:=by decide)(hcd:(x==("__classdict__":Str))=false:=by decide)
  (hbase:attributeBase (.Name x npos) "pop" X.env (eval (.Name x npos) X.env)=eval (.Name x npos) X.env:=by rfl)(hline:(apos.endLine==cpos.line)=true:=by rfl):PE X (.Call (.Attribute (.Name x npos) "pop" apos) [] [] cpos) (liftV K (uPop i)):=by
 subst hK;refine(znw PySem.F.plainAttrs_list PySem.F.slot_list_pop PySem.F.type_list_pop znK (zaM hN hv hd hcd) hbase hline).mono fun σ H Q ⟨A,P,R,h,c⟩=>?_;unfold uPop at h
 split at h
 ·rename_i a xs hx;obtain⟨v,ev,rfl,nb,vs,h1,h2⟩:=R.sl i _ hx;obtain⟨ys,y,rfl,h⟩:=h;obtain⟨ws,w,rfl,g1,g2⟩:=h2.last;obtain⟨R2,S2⟩:=R.turn hx g1;refine⟨_,ev,.inl ⟨rfl,_,SqL.of h1⟩,a,_,w,rfl,rfl,h1,by simp,?_⟩;rw[List.dropLast_concat];exact c _ _ _ _ h R2 S2 (g2.imp (R.keep S2))
 ·exact h.elim
theorem zoP (hK:X.K=K)(i:Nat){x:Str}(he:PE X e (liftQ K ue))(hN:X.N[i]?=some x:=by rfl)(hv:Vis X.env.scope x:=by first|exact Or.inl rfl|exact Or.inr (Or.inl rfl)|exact Or.inr (Or.inr rfl))(hd:(x==("__debug__":Str))=false:=by decide)(hcd:(x==("__classdict__":Str))=false:=by decide)
  (hbase:attributeBase (.Name x npos) "extend" X.env (eval (.Name x npos) X.env)=eval (.Name x npos) X.env:=by rfl)
  (hfew:((backTo cpos (starEach [e] X.env)).all (fun x=>!x.1)&&(backToKw cpos (keywordEach [] X.env)).all (fun x=>x.1.isSome)&&decide ([e].length+([]:List Keyword).length+(if ([]:List Keyword).isEmpty then 0 else 1)<30))=true:=by rfl)
  (hline:(apos.endLine==cpos.line)=true:=by rfl)(hs:starEach [e] X.env=[(false,eval e X.env)]:=by rfl):PE X (.Call (.Attribute (.Name x npos) "extend" apos) [e] [] cpos) (liftV K (uExt i ue)):=by
 subst hK;refine(zfT PySem.F.plainAttrs_list PySem.F.slot_list_extend PySem.F.type_list_extend (mt_extend.or zfV) (zaM hN hv hd hcd) (zaf he pa_nil hs) hbase hfew hline hs rfl).mono fun σ H Q ⟨A,P,R,h,c⟩=>?_;unfold uExt at h
 split at h
 ·rename_i a ys hx;obtain⟨v,ev,rfl,nb,vs,h1,h2⟩:=R.sl i _ hx;refine⟨_,ev,.inl ⟨rfl,_,SqL.of h1⟩,A,_,R,h,fun r A1 w H1 p R1 S1 q1=>?_⟩;obtain⟨xs,ys,hA,hr,few,p⟩:=p;obtain⟨_,_,_,_,us,g1,g2⟩:=R1.sl i _ hA;have l1:=g2.len;rcases hr with rfl|rfl
  ·obtain⟨b,ws,rfl,f1,f2⟩:=q1.lst R1;have l2:=f2.len;obtain⟨R2,S2⟩:=R1.turn hA (g2.app f2);exact .inl ⟨a,b,us,ws,rfl,rfl,g1,f1,zbS (by omega),c _ _ _ _ p R2 (S1.trans S2) .non⟩
  ·obtain⟨b,ws,rfl,f1,f2⟩:=q1.tup;have l2:=f2.len;obtain⟨R2,S2⟩:=R1.turn hA (g2.app f2);exact .inr ⟨a,b,us,ws,rfl,rfl,g1,f1,zbS (by omega),c _ _ _ _ p R2 (S1.trans S2) .non⟩
 ·exact h.elim
theorem zjt (hK:X.K=K)(hr:Room k X.A)(i:Nat){x:Str}(he:PE X e (liftV K ue))(hN:X.N[i]?=some x:=by rfl)(hv:Vis X.env.scope x:=by first|exact Or.inl rfl|exact Or.inr (Or.inl rfl)|exact Or.inr (Or.inr rfl))(hd:(x==("__debug__":Str))=false:=by decide)(hcd:(x==("__classdict__":Str))=false:=by decide)
  (hbase:attributeBase (.Name x npos) "remove" X.env (eval (.Name x npos) X.env)=eval (.Name x npos) X.env:=by rfl)
  (hfew:((backTo cpos (starEach [e] X.env)).all (fun x=>!x.1)&&(backToKw cpos (keywordEach [] X.env)).all (fun x=>x.1.isSome)&&decide ([e].length+([]:List Keyword).length+(if ([]:List Keyword).isEmpty then 0 else 1)<30))=true:=by rfl)
  (hline:(apos.endLine==cpos.line)=true:=by rfl)(hs:starEach [e] X.env=[(false,eval e X.env)]:=by rfl):PE X (.Call (.Attribute (.Name x npos) "remove" apos) [e] [] cpos) (liftV K (uRemove i ue)):=by
 subst hK;refine(zfT PySem.F.plainAttrs_list PySem.F.slot_list_remove PySem.F.type_list_remove (zho (by have:=hr.un;omega)) (zaM hN hv hd hcd) (zaf he pa_nil hs) hbase hfew hline hs rfl).mono fun σ H Q ⟨A,P,R,h,c⟩=>?_;unfold uRemove at h
 split at h
 ·rename_i a ys hx;obtain⟨v,ev,rfl,nb,vs,h1,h2⟩:=R.sl i _ hx;refine⟨_,ev,.inl ⟨rfl,_,SqL.of h1⟩,A,_,R,h,fun r A1 w H1 p R1 S1 rw'=>?_⟩;obtain⟨xs,j,hA,⟨n,hn,d1,d2⟩,hit,hno,p⟩:=p;obtain⟨_,_,_,_,us,g1,g2⟩:=R1.sl i _ hA;obtain⟨R2,S2⟩:=R1.turn hA (g2.erase j);exact⟨a,us,w,AN A1,xs,r,n,j,rfl,rfl,g1,hn,d1,d2,rw',g2,hit,hno,c _ _ _ _ p R2 (S1.trans S2) .non⟩
 ·exact h.elim
end
end L2
namespace L2
open PySem PySem.Spec PyProof.Rows
theorem cS0 {X:Cx}{sc:Scope}{N:List Str}{k:Nat}(kind:sc.kind=.function:=by rfl)(nocell:∀ y∈sc.names,y.2≠.cell:=by decide +kernel)(nofree:∀ y∈sc.names,y.2≠.free:=by decide +kernel)(names:∀ y∈sc.names,y.2=.local->sc.names.lookup y.1=some .local:=by decide +kernel)(len:N.length=k:=by rfl) :
  CompScope X sc (clFrom X.env sc.names []) N k []:=zgj kind nocell nofree names len
def cfK:Option NameKind->Bool
 |some .cell=>true
 |some .free=>true
 |_=>false
theorem zpd {o:Option NameKind}(h:cfK o=true):o=some .cell\/o=some .free:=by
 unfold cfK at h
 split at h
 ·exact .inl rfl
 ·exact .inr rfl
 ·cases h
def fr1 (cells:List (Str×Addr)):List (Str×NameKind)->Bool
 |[]=>true
 |(x,.free)::r=>(cells.lookup x).isSome&&fr1 cells r
 |_::r=>fr1 cells r
theorem zko {cells:List (Str×Addr)}:∀{l:List (Str×NameKind)},fr1 cells l=true->∀ y∈l,y.2=.free->∃ c,cells.lookup y.1=some c
 |[],_,y,hy,_=>by cases hy
 |(x,k)::r,h,y,hy,hf=>by
  rcases List.mem_cons.mp hy with e|e
  ·subst e;cases hf;exact Option.isSome_iff_exists.mp (Bool.and_eq_true_iff.mp h).1
  ·refine zko (l:=r) ?_ y e hf;cases k<;>first|exact h|exact(Bool.and_eq_true_iff.mp h).2
def ct1 (XN:List Str)(e:Env)(sc:List (Str×NameKind)):List Nat->List Str->Bool
 |j::ix,x::N=>(match XN[j]? with|some y=>y==x|none=>false)&&cfK (e.kindOf x)&&cfK (sc.lookup x)&&ct1 XN e sc ix N
 |_,_=>true
theorem zkq {XN:List Str}{e:Env}{sc:List (Str×NameKind)}:∀{ix:List Nat}{N:List Str},ct1 XN e sc ix N=true->∀(i j:Nat)(x:Str),ix[i]?=some j->N[i]?=some x->XN[j]?=some x/\(e.kindOf x=some .cell\/e.kindOf x=some .free)/\(sc.lookup x=some .cell\/sc.lookup x=some .free)
 |[],_,_,i,j,x,h1,_=>by simp at h1
 |_::_,[],_,i,j,x,_,h2=>by simp at h2
 |a::ix,b::N,h,i,j,x,h1,h2=>by
  simp only[ct1,Bool.and_eq_true] at h;obtain⟨⟨⟨q1,q2⟩,q3⟩,q4⟩:=h
  cases i with
  |zero=>
   cases h1;cases h2;refine⟨?_,zpd q2,zpd q3⟩
   split at q1
   ·rename_i y hy;rw[hy];rw[show y=b by simpa using q1]
   ·cases q1
  |succ i=>exact zkq q4 i j x (by simpa using h1) (by simpa using h2)
theorem cS {X:Cx}{sc:Scope}{N:List Str}{k:Nat}{ix:List Nat}(kind:sc.kind=.function:=by rfl)(nocell:∀ y∈sc.names,y.2≠.cell:=by decide +kernel)(names:∀ y∈sc.names,y.2=.local->sc.names.lookup y.1=some .local:=by decide +kernel)
  (hfr:fr1 X.env.cells sc.names=true:=by rfl)(len:N.length=k+ix.length:=by rfl)(caught:ct1 X.N X.env (relabel sc X.env).names ix (N.drop k)=true:=by rfl) :
  CompScope X sc (clFrom X.env sc.names []) N k ix:=compScope kind nocell names (zko hfr) len fun i j x h1 h2=>zkq caught i j x h1 (by rw[List.getElem?_drop];exact h2)
def uAsg (ue:UE)(g:UG):US:=fun E A=>ue A fun x A1=>g x A1 E.nx
theorem zcP {X:Cx}{K:Frag}{tg e:Expr}{ue:UE}{g:UG}{pos:Pos}(he:PE X e (liftV K ue))(hg:PG X tg (liftG K g))(hs:swapsWithSole [tg] e pos.line X.env=pure false:=by rfl)(hw:swappedStores [tg] e X.env=pure none:=by rfl)
  (h1:(assignEach [tg] X.env).map (·.2)=[assign tg X.env]:=by rfl):PS X (.Assign [tg] e pos) (liftS K (uAsg ue g)):=(zni he hg hs hw h1).mono fun D σ H ⟨A,E,R,h,k⟩=>
 ⟨A,_,R,h,fun x A1 v H1 p R1 S1 rv=>⟨x,A1,_,R1,rv,p,fun A2 σ2 p2 R2 S2=>k.nx A2 σ2 H1 p2 R2 (S1.trans S2)⟩⟩
section
variable {X:Cx}{K:Frag}{a b c:Expr}{ua ub uc:UE}{pos:Pos}{r r':R2}{G G':G2}{op op':CmpOp}
end
def stV:Nat->SSt->PV
 |4,st=>.int st.b.nm
 |5,st=>.int st.b.pt
 |6,st=>.str st.b.x
 |7,st=>.int st.b.z
 |8,st=>.int st.b.y
 |_,_=>.non
def uSt (i j:Nat):UE:=fun A Q=>∃ st,A.S=some st/\A.rho[i]?=some (some (.val (.raw (.ref st.d))))/\Q (stV j st) A
def stPut (j:Nat)(v:Int)(st:SSt):SSt:=match j with
 |4=>{ st with b:={ st.b with nm:=v } }
 |5=>{ st with b:={ st.b with pt:=v } }
 |_=>st
def uStPut (i j:Nat)(ue:UE):US:=fun E A=>ue A fun x A1=>∃ st v,A1.S=some st/\A1.rho[i]?=some (some (.val (.raw (.ref st.d))))/\x=.int v/\E.nx { A1 with S:=some (stPut j v st) }
section
variable {X:Cx}{K:Frag}{e:Expr}{ue:UE}{pos npos kpos spos:Pos}{k kk:Nat}
theorem e_st (hr:Room k X.A)(i j:Nat){x key:Str}(hj:4<=j)(hj2:j<=8)(hk:SK[j]?=some (.inr key))(hN:X.N[i]?=some x:=by rfl)(hv:Vis X.env.scope x:=by first|exact Or.inl rfl|exact Or.inr (Or.inl rfl)|exact Or.inr (Or.inr rfl))(hd:(x==("__debug__":Str))=false:=by decide)(hcd:(x==("__classdict__":Str))=false:=by decide)
  (hs:NoSl (.Constant (.str key) kk kpos):=by intro _ _;rfl):PE X (.Subscript (.Name x npos) (.Constant (.str key) kk kpos) pos) (liftV K (uSt i j)):=(zay (zdp hr) (zaM hN hv hd hcd) zao hs).mono fun σ H Q ⟨A,P,R,h,c⟩=>by
 obtain⟨st,hS,hx,h⟩:=h;obtain⟨v,ev,rv⟩:=R.sl i _ hx;cases (show RV K (AN A) H (.raw (.ref st.d)) v from rv);obtain⟨t,l,w,e,_⟩:=(R.st st hS).2.1.ex
 have main:∀ z w',(SV st.a t l w st.b)[j]?=some w'->stV j st=z->RV K (AN A) H z w'->∃ v,σ[i]?=some (some v)/\tC (.str key) σ H (fun y H2=>∃ a v',v=.ref a/\DGet H2 a y (some v')/\Q v' H2):=fun z w' hw hz rz=>by
  subst hz;exact⟨_,ev,_,w',rfl,dget e hk hw,c _ A _ H h R (Stp.refl A H) rz⟩
 have hjs:j=4\/j=5\/j=6\/j=7\/j=8:=by omega
 rcases hjs with rfl|rfl|rfl|rfl|rfl
 ·exact main _ _ rfl rfl (.int _)
 ·exact main _ _ rfl rfl (.int _)
 ·exact main _ _ rfl rfl (.str _)
 ·exact main _ _ rfl rfl (.int _)
 ·exact main _ _ rfl rfl (.int _)
theorem s_st (hr:Room k X.A)(i j:Nat){x key:Str}(hj:j=4\/j=5)(hk:SK[j]?=some (.inr key))(he:PE X e (liftV K ue))(hN:X.N[i]?=some x:=by rfl)(hv:Vis X.env.scope x:=by first|exact Or.inl rfl|exact Or.inr (Or.inl rfl)|exact Or.inr (Or.inr rfl))(hd:(x==("__debug__":Str))=false:=by decide)(hcd:(x==("__classdict__":Str))=false:=by decide)
  (hs:swapsWith e (some (.Subscript (.Name x npos) (.Constant (.str key) kk kpos) pos)) spos.line X.env=pure false:=by rfl):PS X (.Assign [.Subscript (.Name x npos) (.Constant (.str key) kk kpos) pos] e spos) (liftS K (uStPut i j ue)):=(zbd (zdp hr) (zaM hN hv hd hcd) zao he hs).mono fun D σ H ⟨A,E,R,h,k⟩=>by
 refine⟨A,_,R,h,fun x A1 v H1 p R1 S1 rv=>?_⟩;obtain⟨st,n,hS,hx,rfl,p⟩:=p;obtain⟨v',ev,rv'⟩:=R1.sl i _ hx;cases (show RV K (AN A1) H1 (.raw (.ref st.d)) v' from rv');cases rv;obtain⟨b1,s0,h3⟩:=R1.st st hS;obtain⟨t,l,w,e,g1,g2,g3⟩:=s0.ex;have d4:DPut H1 st.d (.str key) (.int n) (upd H1 st.d (.dK (SK.zip ((SV st.a t l w st.b).set j (.int n))))):=dput e rfl hk;have b4:But st.d H1 (upd H1 st.d (.dK (SK.zip ((SV st.a t l w st.b).set j (.int n))))):=fun c o h nc=>by rw[zad nc];exact h
 have s4:StAt (upd H1 st.d (.dK (SK.zip ((SV st.a t l w st.b).set j (.int n))))) st.d st.a st.n (stPut j n st).b:=by
  rcases hj with rfl|rfl
  ·exact⟨⟨t,l,w,zab,g1,g2,g3⟩,s0.tbk rfl⟩
  ·exact⟨⟨t,l,w,zab,g1,g2,g3⟩,s0.tbk rfl⟩
 have sp:(stPut j n st).d=st.d/\(stPut j n st).a=st.a/\(stPut j n st).n=st.n:=by rcases hj with rfl|rfl<;>exact⟨rfl,rfl,rfl⟩
 have h3':ScrF K (upd H1 st.d (.dK (SK.zip ((SV st.a t l w st.b).set j (.int n))))) (stPut j n st).a:=by
  rw[sp.2.1]
  exact h3.keepF fun o u ho=>by
   rw[zad fun z=>by rw[z,e] at ho;cases ho];exact ho
 obtain⟨R2,S2⟩:=zmQ (st':=stPut j n st) R1 hS b4 sp.1 (by rw[sp.1,sp.2.1,sp.2.2];exact s4) h3';exact⟨_,ev,_,_,rfl,d4,k.nx _ σ _ p R2 (S1.trans S2)⟩
end
def tTake:Tr:=fun xs st P=>∃ m,xs=[.raw (.ref st.d),.int m]/\st.n<=100000/\0<m/\m<2 ^ 200/\∀ r:Int,0<=r->r<m->P (.int r) { st with n:=st.n+1 }
theorem zkL {K:Frag}{vs:List V}{H:Hp}{Q:VK}{E:XK}(h:spS K false tTake vs H Q E):spTake K vs H Q E:=by
 obtain⟨B,xs,st,P,dom,hd,h1,h2,rv,⟨m,rfl,n1,m0,m1,p⟩,fin⟩:=h
 cases rv with
 |cons r1 r2=>
  cases r1
  cases r2 with
  |cons r3 r4=>
   cases r3;cases r4
   exact⟨st.d,st.a,st.n,st.b,m,rfl,h1,h2.scr,n1,m0,m1,fun r H' a1 a2 s b=>fin _ { st with n:=st.n+1 } _ H' (p r a1 a2) rfl s (by
    obtain⟨kvs,e⟩:=h1.dk
    exact h2.keepF fun o u h2=>b _ _ h2 (fun z=>by rw[z,e] at h2;cases h2)) ⟨b,.int r⟩⟩
end L2
namespace L2
open PySem PySem.Spec PyProof.Rows
theorem DGet.kR {H:Hp}{a:Addr}{kvs:List (Key×V)}{k:Key}(e:Rd H a (.dK kvs)):DGet H a (kV k) (valV kvs k):=.inl ⟨kvs,k,e,rfl,rfl⟩
def pk:PV->Option Key
 |.int i=>some (.inl i)
 |.str s=>some (.inr s)
 |_=>none
def kP:Key->PV
 |.inl i=>.int i
 |.inr s=>.str s
theorem zpU (k:Key):pk (kP k)=some k:=by cases k<;>rfl
def dlook:List (PV×PV)->Key->Option PV
 |[],_=>none
 |(p,x)::r,k=>if pk p=some k then some x else dlook r k
def dput' (kvs:List (PV×PV))(k:Key)(v:PV):List (PV×PV):=if (dlook kvs k).isSome then kvs.map (fun kv=>if pk kv.1=some k then (kv.1,v) else kv) else kvs++[(kP k,v)]
section
variable {K:Frag}{N:Addr->Prop}{H:Hp}
theorem ziJ {p:PV}{k:Key}(r:RV K N H p (kV k)):pk p=some k:=by
 cases k with
 |inl i=>cases (show RV K N H p (.int i) from r);rfl
 |inr i=>cases (show RV K N H p (.str i) from r);rfl
theorem ziI {p:PV}{v:V}{k:Key}(h:pk p=some k)(r:RV K N H p v):v=kV k:=by
 cases p<;>first|(cases h;done)|(cases h;cases r;rfl)
theorem zpT (k:Key):RV K N H (kP k) (kV k):=by
 cases k with
 |inl i=>exact .int i
 |inr i=>exact .str i
abbrev kpair (kv:Key×V):V×V:=(kV kv.1,kv.2)
theorem zfF:∀{kvs:List (PV×PV)}{kws:List (Key×V)},RKs K N H kvs (kws.map kpair)->∀ k,(∀ x,dlook kvs k=some x->∃ v,valV kws k=some v/\RV K N H x v)/\(dlook kvs k=none->valV kws k=none)
 |[],[],_,k=>⟨fun x h=>(by cases h),fun _=>rfl⟩
 |[],_::_,h,_=>nomatch h
 |_::_,[],h,_=>nomatch h
 |(p,x)::kvs,kw::kws,h,k=>by
  cases h with
  |cons r1 r2 r3=>
   have e:=ziJ r1;have ih:=zfF r3 k;by_cases hk:kw.1=k
   ·have e':pk p=some k:=by rw[e,hk]
    unfold dlook;rw[if_pos e',zbM hk];exact⟨fun y hy=>(by cases hy;exact⟨_,rfl,r2⟩),fun z=>by cases z⟩
   ·have e':¬ pk p=some k:=by rw[e];exact fun z=>hk (Option.some.inj z)
    unfold dlook;rw[if_neg e',zbN hk];exact ih
theorem zhU {kvs:List (PV×PV)}{kws:List (Key×V)}(h:RKs K N H kvs (kws.map kpair))(k:Key):(dlook kvs k).isSome=(valV kws k).isSome:=by
 cases e:dlook kvs k with
 |none=>rw[(zfF h k).2 e];rfl
 |some x=>obtain⟨v,hv,_⟩:=(zfF h k).1 x e;rw[hv];rfl
theorem RKs.app {kvs kvs':List (PV×PV)}{vs vs':List (V×V)}(h:RKs K N H kvs vs)(g:RKs K N H kvs' vs'):RKs K N H (kvs++kvs') (vs++vs'):=by
 induction vs generalizing kvs with
 |nil=>cases h;exact g
 |cons v vs ih=>cases h with|cons h1 h2 h3=>exact .cons h1 h2 (ih h3)
theorem zeR {kvs:List (PV×PV)}{kws:List (Key×V)}(h:RKs K N H kvs (kws.map kpair))(k:Key){x:PV}{v:V}(r:RV K N H x v):RKs K N H (dput' kvs k x) ((putK kws k v).map kpair):=by
 unfold dput' putK;rw[zbv,zhU h k]
 cases e:(valV kws k).isSome with
 |false=>
  rw[if_neg Bool.false_ne_true,if_neg Bool.false_ne_true,List.map_append];exact h.app (.cons (zpT k) r .nil)
 |true=>
  rw[if_pos rfl,if_pos rfl];clear e
  have z:∀{kvs:List (PV×PV)}{kws:List (Key×V)},RKs K N H kvs (kws.map kpair)->RKs K N H (kvs.map fun kv=>if pk kv.1=some k then (kv.1,x) else kv) ((kws.map fun kv=>if kv.1=k then (kv.1,v) else kv).map kpair):=by
   intro kvs
   induction kvs with
   |nil=>intro kws h;cases kws with|nil=>exact .nil|cons _ _=>cases h
   |cons p kvs ih=>
    intro kws h
    cases kws with
    |nil=>cases h
    |cons kw kws=>
     cases h with
     |cons r1 r2 r3=>
      have e:=ziJ r1;rw[List.map_cons,List.map_cons,List.map_cons];by_cases hk:kw.1=k
      ·rw[if_pos hk,if_pos (by show pk _=_;rw[e,hk])];exact .cons r1 r (ih r3)
      ·rw[if_neg hk,if_neg (by show ¬ pk _=_;rw[e];exact fun z=>hk (Option.some.inj z))];exact .cons r1 r2 (ih r3)
  exact z h
end
section
variable {X:Cx}{K:Frag}{e:Expr}{ue:UE}{pos:Pos}
theorem ed0:PE X (.Dict [] [] pos) (liftF K (uC (.dic []))):=pe_dnewK.mono fun σ H Q ⟨A,P,R,h,c⟩=>fun p hp=>
 c _ A _ H _ h R (Stp.refl A H) ⟨p,.dic [],rfl,rfl,hp,zal hp _,[],zab,.nil⟩
end
theorem Rep.turnD {K:Frag}{H:Hp}{σ:St}{A:AS}{i:Nat}(R:Rep K H σ A){a:Addr}{xs ys:List (PV×PV)}{vs:List (Key×V)}(hi:A.rho[i]?=some (some (.own a (.dic xs))))(r:RKs K (AN A) H ys (vs.map kpair)):Rep K (upd H a (.dK vs)) σ (put A i (.own a (.dic ys)))/\Stp A H (put A i (.own a (.dic ys))) (upd H a (.dK vs)):=by
 obtain⟨v,ev,rfl,nb,us,ha,_⟩:=R.sl i _ hi
 have ow:∀ b,Own (put A i (.own a (.dic ys))).rho b->Own A.rho b:=by
  rintro b ⟨j,c,h⟩;rcases zar h with ⟨_,z⟩|⟨_,z⟩
  ·cases z;exact⟨i,_,hi⟩
  ·exact⟨j,c,z⟩
 have dm:∀ b,H b≠none->upd H a (.dK vs) b≠none:=fun b h=>by
  by_cases e:b=a
  ·subst e;rw[zab];intro z;cases z
  ·rw[zad e];exact h
 have S:Stp A H (put A i (.own a (.dic ys))) (upd H a (.dK vs)):=⟨fun b o h m=>by
  rw[zad fun e=>m (.inl ⟨i,_,by rw[e];exact hi⟩)];exact h,fun b z=>.inl (ow b z),rfl,dm,rfl⟩
 have kp:=R.keep S;refine⟨⟨?_,?_,fun b h=>dm b (R.dom b h),?_,?_,?_⟩,S⟩
 ·rw[R.len];exact(List.length_set ..).symm
 ·intro j t h;rcases zar h with ⟨rfl,z⟩|⟨n,z⟩
  ·cases z;exact⟨_,ev,rfl,nb,vs,zab,r.imp kp⟩
  ·obtain⟨w,e1,q⟩:=R.sl j t z;refine⟨w,e1,?_⟩
   cases t with
   |val x=>exact q.imp kp
   |own b c=>
    have nab:b≠a:=fun e=>n (by subst e;exact R.nd _ _ _ _ _ hi z);exact⟨q.1,q.2.1,q.2.2.imp kp fun o h=>by rw[zad nab];exact h⟩
   |peek b c=>
    have nab:b≠a:=fun e=>nb (by subst e;exact q.2.1);exact⟨q.1,q.2.1,q.2.2.imp kp fun o h=>by rw[zad nab];exact h⟩
 ·intro i1 j1 b c1 c2 h1 h2;rcases zar h1 with ⟨e1,z1⟩|⟨_,z1⟩
  ·cases z1;rcases zar h2 with ⟨e2,z2⟩|⟨_,z2⟩
   ·exact e1.symm.trans e2
   ·exact e1.symm.trans (R.nd _ _ _ _ _ hi z2)
  ·rcases zar h2 with ⟨e2,z2⟩|⟨_,z2⟩
   ·cases z2;exact(R.nd _ _ _ _ _ z1 hi).trans e2
   ·exact R.nd _ _ _ _ _ z1 z2
 ·intro st h;obtain⟨h1,h2,h3⟩:=R.st st h;have nd:a≠st.d:=fun e=>nb (by rw[e];exact h1);refine⟨h1,h2.upd nd (fun ps z=>by rw[ha] at z;cases z),?_⟩
  exact h3.keepF fun o u h3=>by
   rw[zad fun e=>by rw[e,ha] at h3;cases h3];exact h3
 ·intro i1 b c1 st h1 h2;rcases zar h1 with ⟨_,z⟩|⟨_,z1⟩
  ·cases z
  ·exact R.pk _ _ _ _ z1 h2
def uDput (i:Nat)(ue uk:UE):US:=fun E A=>ue A fun v A1=>match A1.rho[i]? with
 |some (some (.own a (.dic _)))=>uk A1 fun kp A2=>∃ k xs,pk kp=some k/\A2.rho[i]?=some (some (.own a (.dic xs)))/\xs.length<=1000000/\E.nx (put A2 i (.own a (.dic (dput' xs k v))))
 |_=>False
theorem RKs.len {K:Frag}{N:Addr->Prop}{H:Hp}{xs:List (PV×PV)}{vs:List (V×V)}(h:RKs K N H xs vs):xs.length=vs.length:=by
 induction vs generalizing xs with
 |nil=>cases h;rfl
 |cons v vs ih=>cases h with|cons h1 h2 h3=>rw[List.length_cons,List.length_cons,ih h3]
section
variable {X:Cx}{K:Frag}{e ke de fe:Expr}{ue uk ud uf:UE}{pos npos spos apos cpos:Pos}{k:Nat}
theorem zbQ (hr:Room k X.A)(i:Nat){x:Str}(he:PE X e (liftV K ue))(hk:PE X ke (liftV K uk))(hN:X.N[i]?=some x:=by rfl)(hv:Vis X.env.scope x:=by first|exact Or.inl rfl|exact Or.inr (Or.inl rfl)|exact Or.inr (Or.inr rfl))(hd:(x==("__debug__":Str))=false:=by decide)(hcd:(x==("__classdict__":Str))=false:=by decide)
  (hs:swapsWith e (some (.Subscript (.Name x npos) ke pos)) spos.line X.env=pure false:=by rfl):PS X (.Assign [.Subscript (.Name x npos) ke pos] e spos) (liftS K (uDput i ue uk)):=(zbd (zdp hr) (zaM hN hv hd hcd) hk he hs).mono fun D σ H ⟨A,E,R,h,k⟩=>by
 refine⟨A,_,R,h,fun v A1 w H1 p R1 S1 rv=>?_⟩
 split at p
 ·rename_i a ys hx;obtain⟨_,ev,rfl,nb,vs,h1,h2⟩:=R1.sl i _ hx;refine⟨_,ev,A1,_,R1,p,fun kp A2 kw H2 p2 R2 S2 rk=>?_⟩;obtain⟨key,xs,hkey,hA,few,p2⟩:=p2;obtain⟨_,_,_,_,us,g1,g2⟩:=R2.sl i _ hA;cases ziI hkey rk;have ll:=g2.len;rw[List.length_map] at ll;obtain⟨R3,S3⟩:=R2.turnD hA (zeR g2 key (rv.imp (R1.keep S2)));exact⟨a,_,rfl,DPut.k g1 (Nat.lt_of_le_of_lt (by omega:us.length<=1000000) (by decide)),k.nx _ σ _ p2 R3 (S1.trans (S2.trans S3))⟩
 ·exact p.elim
def gDix:G2
 |.dic kvs,kp,z=>∃ k,pk kp=some k/\dlook kvs k=some z
 |_,_,_=>False
def gDin (neg:Bool):G2
 |kp,.dic kvs,z=>∃ k,pk kp=some k/\z=.bl (neg^^(dlook kvs k).isSome)
 |_,_,_=>False
end
def RPairS (K:Frag)(H:Hp)(kv:Key×V)(v:V):Prop:=∃ a,v=.ref a/\SqT K H a [kV kv.1,kv.2]
theorem zdh {X:Cx}(hc:X.calm=true):CallR X (.type "dict") (fun xs H Q=>∃(l:Addr)(vs:List V)(kvs:List (Key×V)),xs=[.ref l]/\H l=some (.lst vs)/\Rl (RPairS X.K H) kvs vs/\kvs.length<=1000/\∀ p,H p=none->Q (.ref p) (upd H p (.dK (putV kvs)))):=by
 intro pins s σ H xs us Q I r h;obtain⟨l,vs,kvs,rfl,hl,rl,few,q⟩:=h;obtain⟨u,rfl,ru⟩:=zbk r;cases ru;obtain⟨z,its,n,rv,hlen,e⟩:=I.lstM hl;have len:=rl.len
 have all:∀{kvs:List (Key×V)}{vs:List V}{its:List Value},Rl (RPairS X.K H) kvs vs->Vals vs its->∃ ws:List (Key×Value),KV kvs ws/\∀(i:Nat)(v:Value),its[i]?=some v->∃ p o m key x k,v=.ref p/\s.heap.get? p=some o/\o.cls=.type "tuple"/\o.data=.seq #[key,x] m/\ws[i]?=some (k,x)/\(mixKind X.prog X.w).is k key=true:=by
  intro kvs vs its h
  induction h generalizing its with
  |nil=>
   intro g;cases g;exact⟨[],.nil,fun i v e=>by simp at e⟩
  |@cons kv v kvs vs hp _ ih=>
   intro g
   cases g with
   |cons g1 g2=>
    obtain⟨ws,kw,hw⟩:=ih g2;obtain⟨a,rfl,ha⟩:=hp;cases g1;obtain⟨jts,rj,⟨o,ho,hcl,m,hd⟩,_⟩:=I.tuple ha;obtain⟨key,x,rfl,rk,rx⟩:=ziu rj;refine⟨(kv.1,x)::ws,.cons ⟨rfl,rx⟩ kw,fun i v e=>?_⟩
    cases i with
    |zero=>
     cases e;exact⟨a,o,m,key,x,kv.1,rfl,ho,hcl,hd,rfl,zfg rk⟩
    |succ i=>exact hw i v (by simpa using e)
 obtain⟨ws,kw,hw⟩:=all rl rv;refine zgi (kvs:=ws) (I.ok.hd hc) e (by omega) (by rw[<- kw.length];omega) hw fun h' tk dd kp=>?_;have big:=I.big;refine⟨.ref _,_,I.laid (o:=.dK (putV kvs)) (t':=tk) kp (Nat.le_refl _) (zdy (Nat.le_trans (ziM kvs) (Nat.le_of_lt (zas few))) (beq_eq_false_iff_ne.mpr (Ne.symm (Nat.ne_of_lt big))) (zhw kw) dd),rfl,q _ I.fresh⟩
def kvOf:List PV->Option (List (Key×PV))
 |[]=>some []
 |.tup [p,x]::r=>match pk p,kvOf r with
  |some k,some l=>some ((k,x)::l)
  |_,_=>none
 |_=>none
def dictOf (l:List (Key×PV)):List (PV×PV):=l.foldl (fun acc kv=>dput' acc kv.1 kv.2) []
def gDict:G1
 |.lst xs,z=>∃ l,kvOf xs=some l/\l.length<=1000/\z=.dic (dictOf l)
 |_,_=>False
theorem zhx {K:Frag}{N:Addr->Prop}{H:Hp}:∀{xs:List PV}{vs:List V}{l:List (Key×PV)},RVs K N H xs vs->kvOf xs=some l->∃ kvs:List (Key×V),Rl (RPairS K H) kvs vs/\l.length=kvs.length/\∀(acc:List (PV×PV))(acc':List (Key×V)),RKs K N H acc (acc'.map kpair)->RKs K N H (l.foldl (fun acc kv=>dput' acc kv.1 kv.2) acc) ((kvs.foldl (fun acc kv=>putK acc kv.1 kv.2) acc').map kpair)
 |_,_,_,.nil,h=>by cases h;exact⟨[],.nil,rfl,fun _ _ h=>h⟩
 |x::xs,_,l,.cons r rs,h=>by
  unfold kvOf at h
  split at h
  ·rename_i heq;cases heq
  ·rename_i p y r' heq;cases heq
   split at h
   ·rename_i k l' hk hl;cases h;obtain⟨kvs,h1,h2,h3⟩:=zhx rs hl
    cases r with
    |tup g1 g2=>
     cases g2 with
     |cons q1 q2=>
      cases q2 with
      |cons q3 q4=>
       cases q4;rename_i v1 v2;cases ziI hk q1;exact⟨(k,v2)::kvs,.cons ⟨_,rfl,g1⟩ h1,by simp [h2],fun acc acc' ha=>h3 _ _ (zeR ha k q3)⟩
   ·cases h
  ·cases h
section
variable {X:Cx}{K:Frag}{e:Expr}{ue:UE}{p pos:Pos}
end
end L2
namespace L2
open PySem PySem.Spec PyProof.Rows
def rIxD:R2:=fun x y H Q=>∃ a v,x=.ref a/\DGet H a y (some v)/\Q v H
theorem zlu {X:Cx}(hu:X.A.units+1<cLine):IxR X rIxD:=by
 intro value slice pins s σ H x y v u Q I rx ry h hs;obtain⟨a,z,rfl,g,q⟩:=h;cases rx;have hT:=zda I g;unfold subscriptTail;refine wpAny_bind ?_;rw[getitemInPython_of_ne hT.not_modules];refine wpAny_bind (wpAny_specialOf hT PySem.F.slot_dict_getitem.lookup ?_)
 have fin:wpAny (model X.prog X.w) X.A (subscripted slice false (.ref a) u) (fun r s₃=>wpAny (model X.prog X.w) X.A (letTemporaryGo value (.ref a) r >>= fun _=>pure r) (EP X pins σ Q) X.xe s₃) X.xe s:=by
  rw[hs];exact wpAny_operating (zeD hu I g ry fun w' s3 I3 rw'=>wpAny_bind (wpAny_letTemporaryGo (wpAny_pure ⟨z,H,I3,rw',q⟩)))
 first
  |exact wpAny_pure (wpAny_bind fin)
  |exact wpAny_bind (wpAny_pure (wpAny_bind fin))
  |exact wpAny_bind fin
def rInD (neg:Bool):R2:=fun y x H Q=>∃ a o,x=.ref a/\DGet H a y o/\Q (.bl (neg^^o.isSome)) H
theorem znE {X:Cx}(hu:X.A.units+1<cLine):OpR X (compareOp .In) (rInD false):=by
 intro pins s σ H y x u v Q I ry rx h;obtain⟨a,o,rfl,g,q⟩:=h;cases rx;exact d_in hu I g ry fun s3 I3=>⟨.bl o.isSome,H,I3,rfl,by simpa using q⟩
theorem zhg {X:Cx}(hu:X.A.units+1<cLine):OpR X (compareOp .NotIn) (rInD true):=by
 intro pins s σ H y x u v Q I ry rx h;obtain⟨a,o,rfl,g,q⟩:=h;cases rx;exact zlZ hu I g ry fun s3 I3=>⟨.bl (!o.isSome),H,I3,rfl,by simpa using q⟩
def gIxA (x y z:PV):Prop:=gIx x y z\/gDix x y z
def gInA (neg:Bool)(x y z:PV):Prop:=gIn neg x y z\/gDin neg x y z
section
variable {X:Cx}{K:Frag}{a b:Expr}{ua ub:UE}{pos:Pos}{k:Nat}
theorem zph:Br2 K (fun x y H Q=>rIx K x y H Q\/rIxD x y H Q) gIxA:=by
 intro H A σ x y v w z Q R q1 q2 g c;rcases g with g|g
 ·exact .inl (zqx H A σ x y v w z Q R q1 q2 g c)
 ·cases x<;>first|exact g.elim|skip
  obtain⟨key,hkey,hl⟩:=g;obtain⟨a,kws,rfl,h1,h2⟩:=q1.dic R;have rk:RV K (AN A) H y w:=q2.rv fun c z=>by subst z;cases c<;>cases hkey
  cases ziI hkey rk;obtain⟨u,hu,ru⟩:=(zfF h2 key).1 z hl;refine .inr ⟨a,u,rfl,?_,c _ H (Same.refl H) ru⟩;rw[<- hu];exact DGet.kR h1
theorem zkt {neg:Bool}:Br2 K (fun x y H Q=>rInA K neg x y H Q\/rInD neg x y H Q) (gInA neg):=by
 intro H A σ y x w v z Q R q1 q2 g c;rcases g with g|g
 ·exact .inl (zqy H A σ y x w v z Q R q1 q2 g c)
 ·cases x<;>first|(cases y<;>exact g.elim)|skip
  rename_i kvs;have g':∃ k,pk y=some k/\z=.bl (neg^^(dlook kvs k).isSome):=by cases y<;>exact g
  obtain⟨key,hkey,rfl⟩:=g';obtain⟨a,kws,rfl,h1,h2⟩:=q2.dic R;have rk:RV K (AN A) H y w:=q1.rv fun c z=>by subst z;cases c<;>cases hkey
  cases ziI hkey rk;refine .inr ⟨a,_,rfl,DGet.kR (k:=key) h1,?_⟩;rw[<- zhU h2 key];exact c _ H (Same.refl H) (.bl _)
theorem zae (hK:X.K=K)(hr:Room k X.A)(ha:PE X a (liftQ K ua))(hb:PE X b (liftQ K ub))(hs:PlainIx b:=by intro _ _;rfl):PE X (.Subscript a b pos) (liftV K (u2 gIxA ua ub)):=by
 subst hK;exact s_ix (ix_seq.or (zlu (zdp hr))) zph ha hb hs
theorem zgw (hK:X.K=K)(hr:Room k X.A)(ha:PE X a (liftQ K ua))(hb:PE X b (liftQ K ub))(hm:behindInMarks .In b=false:=by with_unfolding_all rfl):PT X (.Compare a [.In] [b] pos) (liftT K (u2t (gInA false) ua ub)):=zcO ((znF hK hr).or (znE (zdp hr))) zkt ha hb hm
theorem zjR (hK:X.K=K)(hr:Room k X.A)(ha:PE X a (liftQ K ua))(hb:PE X b (liftQ K ub))(hm:behindInMarks .NotIn b=false:=by with_unfolding_all rfl):PT X (.Compare a [.NotIn] [b] pos) (liftT K (u2t (gInA true) ua ub)):=zcO ((zhh hK hr).or (zhg (zdp hr))) zkt ha hb hm
end
section
variable {i:Int}{s u:Str}{xs ys:List PV}{z x:PV}{kvs:List (PV×PV)}{n:Bool}
theorem zoo:gIxA (.tup xs) (.int i) z=(atI xs i=some z):=by simp [gIxA,gIx,gDix]
theorem zoq:gIxA (.lst xs) (.int i) z=(atI xs i=some z):=by simp [gIxA,gIx,gDix]
theorem zop:gIxA (.str s) (.int i) z=(s.length<=100000/\∃ c,atI s.cps.toList i=some c/\z=.str ⟨#[c]⟩):=by simp [gIxA,gIx,gDix]
theorem zor:gIxA (.dic kvs) x z=(∃ k,pk x=some k/\dlook kvs k=some z):=by cases x<;>simp [gIxA,gIx,gDix]
theorem zkl:gInA n x (.tup ys) z=((∀ c:OC,x≠c.pv)/\(∃ n,n<=80/\Dp n x/\∀ p∈ys,Dp n p)/\z=.bl (n^^pin x ys)):=by cases x<;>simp [gInA,gIn,gDin]
theorem zkm:gInA n x (.lst ys) z=((∀ c:OC,x≠c.pv)/\(∃ n,n<=80/\Dp n x/\∀ p∈ys,Dp n p)/\z=.bl (n^^pin x ys)):=by cases x<;>simp [gInA,gIn,gDin]
end
end L2
namespace L2
open PySem PySem.Spec PyProof.Rows
def txs:List PV->Option (List Str)
 |[]=>some []
 |.str s::r=>(txs r).map (s::·)
 |_=>none
theorem zgq (ys:List Str):txs (ys.map PV.str)=some ys:=by
 induction ys with
 |nil=>rfl
 |cons y ys ih=>show(txs (ys.map PV.str)).map (y::·)=_;rw[ih];rfl
theorem zgp {K:Frag}{N:Addr->Prop}{H:Hp}:∀{xs:List PV}{vs:List V}{ys:List Str},RVs K N H xs vs->txs xs=some ys->vs=ys.map V.str
 |_,_,_,.nil,h=>by cases h;rfl
 |x::xs,_,ys,.cons r rs,h=>by
  cases x<;>first|(cases h;done)|skip
  rename_i b;obtain⟨cs,hc,rfl⟩:=Option.map_eq_some_iff.mp (show(txs xs).map (b::·)=some ys from h);cases r;rw[zgp rs hc];rfl
theorem zgI {K:Frag}{N:Addr->Prop}{H:Hp}(ys:List Str):RVs K N H (ys.map PV.str) (ys.map V.str):=by
 induction ys with
 |nil=>exact .nil
 |cons y ys ih=>exact .cons (.str y) ih
def strsOf:PV->Option (List Str)
 |.lst xs=>txs xs
 |_=>none
def insS (x:Str):List Str->List Str
 |[]=>[x]
 |y::r=>if y.cps.toList<x.cps.toList then y::insS x r else x::y::r
def sortS:List Str->List Str
 |[]=>[]
 |x::r=>insS x (sortS r)
theorem zcZ (x:Str):∀ l:List Str,(insS x l).Perm (x::l)
 |[]=>.refl _
 |y::r=>by
  unfold insS
  split
  ·exact((zcZ x r).cons y).trans (.swap x y r)
  ·exact .refl _
theorem zaj:∀ l:List Str,(sortS l).Perm l
 |[]=>.refl _
 |x::r=>(zcZ x (sortS r)).trans ((zaj r).cons x)
theorem zcY (x:Str):∀ l:List Str,l.Pairwise leS->(insS x l).Pairwise leS
 |[],_=>List.pairwise_singleton _ _
 |y::r,h=>by
  obtain⟨h1,h2⟩:=List.pairwise_cons.mp h;unfold insS
  split
  ·rename_i hlt;refine List.pairwise_cons.mpr ⟨fun z hz=>?_,zcY x r h2⟩;rcases List.mem_cons.mp ((zcZ x r).mem_iff.mp hz) with rfl|hz
   ·exact fun z=>List.lt_asymm hlt z
   ·exact h1 z hz
  ·rename_i hlt;refine List.pairwise_cons.mpr ⟨fun z hz=>?_,h⟩;rcases List.mem_cons.mp hz with rfl|hz
   ·exact hlt
   ·exact zel hlt (h1 z hz)
theorem zgD (l:List Str):Srt l (sortS l):=by
 refine⟨zaj l,?_⟩
 induction l with
 |nil=>exact List.Pairwise.nil
 |cons x r ih=>exact zcY x _ ih
theorem Srt.eq {zs ss:List Str}(h:Srt zs ss):ss=sortS zs:=h.one (zgD zs) (.refl _)
def gSortSet:G1:=fun x z=>∃ ys,strsOf x=some ys/\(ded ys).length<64/\ys.length<=1000/\z=.lst ((sortS (ded ys)).map PV.str)
def gSorted:G1
 |.lst xs,z=>∃ ys,txs xs=some ys/\ys.length<64/\z=.lst ((sortS ys).map PV.str)
 |_,_=>False
section
variable {X:Cx}{K:Frag}{e:Expr}{ue:UE}{p pos p1 pos1:Pos}
theorem zgA {H:Hp}{σ:St}{A:AS}{x:PV}{v:V}{ys:List Str}(R:Rep K H σ A)(q:RVq K A H x v)(h:strsOf x=some ys):∃ a,v=.ref a/\SqL K H a (ys.map V.str):=by
 cases x<;>first|(cases h;done)|skip
 obtain⟨a,vs,rfl,h1,h2⟩:=q.lst R;exact⟨a,rfl,by rw[<- zgp h2 h];exact SqL.of h1⟩
theorem zez (hK:X.K=K)(hc:X.calm=true)(hm:X.mg "sorted"=none)(hm2:X.mg "set"=none)(he:PE X e (liftQ K ue))(hg:Gl X "sorted":=by rfl)(hg2:Gl X "set":=by rfl)(hs:starEach [e] X.env=[(false,eval e X.env)]:=by rfl)(hs2:starEach [.Call (.Name "set" p) [e] [] pos] X.env=[(false,eval (.Call (.Name "set" p) [e] [] pos) X.env)]:=by rfl) :
  PE X (.Call (.Name "sorted" p1) [.Call (.Name "set" p) [e] [] pos] [] pos1) (liftF K (u1 gSortSet ue)):=by
 subst hK;refine(zau (zdg hc) hg hm PyProof.Rows.boot_sorted (zaf (zbm (zjC hc) hg2 hm2 PyProof.Rows.boot_set (zaf he pa_nil hs) (by decide) (by decide) hs) pa_nil hs2) (by decide) (by decide) hs2).mono fun σ H Q ⟨A,P,R,h,c⟩=>⟨A,_,R,h,fun x A1 v H1 p R1 S1 q1=>?_⟩;obtain⟨z,⟨ys,hy,few,few2,rfl⟩,p⟩:=p;obtain⟨a,rfl,ha⟩:=zgA R1 q1 hy;refine⟨a,ys,rfl,ha,few2,fun l hl=>⟨l,ded ys,rfl,zab,few,fun l2 ss hl2 srt=>?_⟩⟩;have s:=zal hl (.ext (SetP X.prog X.w l (ded ys)));cases srt.eq;exact c _ A1 _ _ _ p (R1.same s) (S1.trans (Stp.same A1 s)) ⟨l2,.lst _,rfl,rfl,hl2,zal hl2 _,_,zab,zgI _⟩
theorem zjs (hK:X.K=K)(hm:X.mg "sorted"=none)(he:PE X e (liftQ K ue))(hg:Gl X "sorted":=by rfl)(hs:starEach [e] X.env=[(false,eval e X.env)]:=by rfl):PE X (.Call (.Name "sorted" p) [e] [] pos) (liftF K (u1 gSorted ue)):=by
 subst hK;refine zoQ zcA ?_ PyProof.Rows.boot_sorted hm he hg (hs:=hs);intro H A σ x v z Q R q1 g c;cases x<;>first|exact g.elim|skip
 obtain⟨ys,hy,few,rfl⟩:=g;obtain⟨a,vs,rfl,h1,h2⟩:=q1.lst R;refine⟨a,ys,rfl,by rw[<- zgp h2 hy];exact SqL.of h1,few,fun l ss hl srt=>?_⟩;cases srt.eq;exact c _ _ ⟨l,.lst _,rfl,rfl,hl,zal hl _,_,zab,zgI _⟩
end
structure Df (K:Frag)(mg:Str->Option Value)(x:Str)(st:Stmt):Prop where
 ex:∃ f fd,Fun K x x st f fd/\mg x=some (.ref f)
section
variable {P:Program}{w:World}{K:Frag}{mg:Str->Option Value}{base:Heap}
theorem Kn.mono {j k:Nat}{x:Str}{sp:Sp}(h:Kn P w K mg base j x sp)(l:j<=k):Kn P w K mg base k x sp:=by
 obtain⟨f,fd,ps,F,r⟩:=h.ex;exact⟨f,fd,ps,F.mono l,r⟩
theorem Df.okV {x:Str}{st:Stmt}{N ps:List Str}{k:Nat}{fr:Bool}{G:Rel}(D:Df K mg x st)(S:FnScope N ps (defScope st))
  (bd:∀(kV doc pm:Value)(an:Option Addr)(cdv ct:Value)(us:List Value),us.length=ps.length->bindArgs (PySem.W.fnOf x x (defArgs st) (defBody st) (defScope st) .none kV doc pm an cdv ct) ⟨us,[]⟩=pure (ps.zip us))
  (len:∀ xs r,G xs r->xs.length=ps.length)(lN:ps.length<=N.length)
  (hbody:∀(f:Addr)(cdv:Value)(A:Around)(outer:List Env)(s:Shared)(H:Hp)(E:XK),Room k (A.deeper (envOfC x (defScope st) s.heap.objs.size f cdv)) ->
   ∃ u,PSs (cxOf CX0 P w K mg base N x (defScope st) f cdv A outer s H E).nox (defBody st) (liftS K u)/\∀ B xs r,G xs r->u (endsV fr r) (entry B N xs none)):Kn P w K mg base (k+1) x (spV K fr G):=by
 obtain⟨f,fd,F,hm⟩:=D.ex;exact⟨f,fd,ps,F.okV S len lN (hbody f),F.binds bd,F.kp,hm⟩
theorem Df.okS {x:Str}{st:Stmt}{N ps:List Str}{k:Nat}{fr:Bool}{T:Tr}(D:Df K mg x st)(S:FnScope N ps (defScope st))
  (bd:∀(kV doc pm:Value)(an:Option Addr)(cdv ct:Value)(us:List Value),us.length=ps.length->bindArgs (PySem.W.fnOf x x (defArgs st) (defBody st) (defScope st) .none kV doc pm an cdv ct) ⟨us,[]⟩=pure (ps.zip us))
  (len:∀ xs st P,T xs st P->xs.length=ps.length)(lN:ps.length<=N.length)
  (hbody:∀(f:Addr)(cdv:Value)(A:Around)(outer:List Env)(s:Shared)(H:Hp)(E:XK),Room k (A.deeper (envOfC x (defScope st) s.heap.objs.size f cdv)) ->
   ∃ u,PSs (cxOf CX0 P w K mg base N x (defScope st) f cdv A outer s H E).nox (defBody st) (liftS K u)/\∀ B xs st P,T xs st P->u (endsS fr P) (entry B N xs (some st))):Kn P w K mg base (k+1) x (spS K fr T):=by
 obtain⟨f,fd,F,hm⟩:=D.ex;exact⟨f,fd,ps,F.okS S len lN (hbody f),F.binds bd,F.kp,hm⟩
end
end L2
namespace L2
def Rl1 (P:PV->PV->Prop):Rel:=fun xs r=>∃ x0,xs=[x0]/\P x0 r
def Rl2 (P:PV->PV->PV->Prop):Rel:=fun xs r=>∃ x0 x1,xs=[x0,x1]/\P x0 x1 r
theorem Rl1.len {P:PV->PV->Prop}{xs:List PV}{r:PV}(h:Rl1 P xs r):xs.length=1:=by obtain⟨_,rfl,_⟩:=h;rfl
theorem Rl2.len {P:PV->PV->PV->Prop}{xs:List PV}{r:PV}(h:Rl2 P xs r):xs.length=2:=by obtain⟨_,_,rfl,_⟩:=h;rfl
abbrev PS1:=SSt->(PV->SSt->Prop)->Prop
def Tr1 (T:PS1):Tr:=fun xs st P=>xs=[.raw (.ref st.d)]/\T st P
def Tr2 (T:PV->PS1):Tr:=fun xs st P=>∃ x1,xs=[.raw (.ref st.d),x1]/\T x1 st P
def Tr3 (T:PV->PV->PS1):Tr:=fun xs st P=>∃ x1 x2,xs=[.raw (.ref st.d),x1,x2]/\T x1 x2 st P
def Tr4 (T:PV->PV->PV->PS1):Tr:=fun xs st P=>∃ x1 x2 x3,xs=[.raw (.ref st.d),x1,x2,x3]/\T x1 x2 x3 st P
theorem Tr1.len {T:PS1}{xs:List PV}{st:SSt}{P:PV->SSt->Prop}(h:Tr1 T xs st P):xs.length=1:=by obtain⟨rfl,_⟩:=h;rfl
theorem Tr2.len {T:PV->PS1}{xs:List PV}{st:SSt}{P:PV->SSt->Prop}(h:Tr2 T xs st P):xs.length=2:=by obtain⟨_,rfl,_⟩:=h;rfl
theorem Tr3.len {T:PV->PV->PS1}{xs:List PV}{st:SSt}{P:PV->SSt->Prop}(h:Tr3 T xs st P):xs.length=3:=by obtain⟨_,_,rfl,_⟩:=h;rfl
theorem Tr4.len {T:PV->PV->PV->PS1}{xs:List PV}{st:SSt}{P:PV->SSt->Prop}(h:Tr4 T xs st P):xs.length=4:=by obtain⟨_,_,_,rfl,_⟩:=h;rfl
def zat:PV->PS1:=fun x1 st P=>∃ m,x1=.int m/\st.n<=100000/\0<m/\m<2 ^ 200/\∀ r:Int,0<=r->r<m->P (.int r) { st with n:=st.n+1 }
theorem zpF {xs:List PV}{st:SSt}{P:PV->SSt->Prop}(h:Tr2 zat xs st P):tTake xs st P:=by
 obtain⟨_,rfl,m,rfl,h⟩:=h;exact⟨m,rfl,h⟩
end L2
namespace L2
open PySem
section
variable {i j:Int}{a b:Bool}{s u:Str}{xs ys:List PV}{z x:PV}{P:List PV->Prop}{C:Int->Int->Prop}{f:Int->Int->PV}{l h:Option Int}{kvs:List (PV×PV)}{n:Bool}
theorem zoy:gAdd (.int i) (.int j) z=(z=.int (i+j)):=rfl
theorem zow:gAdd (.str s) (.str u) z=(s.length+u.length<=100000/\z=.str (s++u)):=rfl
theorem zov:gAdd (.tup xs) (.tup ys) z=(xs.length+ys.length<=100000/\z=.tup (xs++ys)):=rfl
theorem zox:gAdd (.lst xs) (.lst ys) z=(xs.length+ys.length<=100000/\z=.lst (xs++ys)):=rfl
theorem zou:gCat (.lst xs) (.lst ys) z=(xs.length+ys.length<=100000/\z=.lst (xs++ys)):=rfl
theorem gI_i:gI C f (.int i) (.int j) z=(C i j/\z=f i j):=rfl
theorem zqi:gI0 f (.int i) (.int j) z=(z=f i j):=rfl
theorem zom:gLen (.tup xs) z=(z=.int xs.length):=rfl
theorem zon:gLen (.lst xs) z=(z=.int xs.length):=rfl
theorem zqe:gSl (.tup xs) l h z=(z=.tup (cutP xs l h)):=rfl
theorem zqg:gSl (.lst xs) l h z=(z=.lst (cutP xs l h)):=rfl
theorem zqf:gSl (.str s) l h z=(s.length<=100000/\z=.str (Txt.slice s l h)):=rfl
theorem zoi:gSlF (.lst xs) l h z=(z=.lst (cutP xs l h)):=rfl
theorem zjl:gTuple (.lst xs) z=(z=.tup xs):=rfl
theorem zlz:gList (.tup xs) z=(z=.lst xs):=rfl
theorem zlA:gList (.lst xs) z=(z=.lst xs):=rfl
theorem zqh:gLt (.int i) (.int j) z=(z=.bl (decide (i<j))):=rfl
theorem zlC:gIsN .non .non z=(z=.bl false):=rfl
theorem zlB:gIsN (.tup xs) .non z=(z=.bl true):=rfl
theorem zos:gInt (.bl a) z=(z=.int (if a then 1 else 0)):=rfl
theorem zpC:ptru (.bl a)=some a:=rfl
theorem zpB:ptru (.lst xs)=some (!xs.isEmpty):=rfl
theorem zpA:isTy .list (.lst xs)=some true:=rfl
theorem zbo (n:Nat)(s:Str):Dp n (.str s):=⟨0,rfl,Nat.zero_le _⟩
theorem zeB (n:Nat)(s:Int):Dp n (.int s):=⟨0,rfl,Nat.zero_le _⟩
theorem zlU (n:Nat)(s:Bool):Dp n (.bl s):=⟨0,rfl,Nat.zero_le _⟩
theorem zoR (n:Nat):Dp n .non:=⟨0,rfl,Nat.zero_le _⟩
theorem zkd (s:Str):∀ c:OC,PV.str s≠c.pv:=by intro c;cases c<;>(intro z;cases z)
theorem znI (s:Int):∀ c:OC,PV.int s≠c.pv:=by intro c;cases c<;>(intro z;cases z)
end
end L2
namespace L2
open PySem
section
variable {α:Type}{k:Nat}{ix:List Nat}{A1:AS}{g:UG}{t:UT}{ue:UE}{Q:PV->AS->Prop}
theorem zed {e:α->PV}{l:List α}{d r:List PV}{x:PV}(h:l.map e=d++x::r):∃ d1 x1 r1,l=d1++x1::r1/\d=d1.map e/\x=e x1/\d1=l.take d.length:=by
 obtain⟨d1,r0,rfl,rfl,h2⟩:=List.map_eq_append_iff.mp h;obtain⟨x1,r1,rfl,rfl,rfl⟩:=List.map_eq_cons_iff.mp h2;exact⟨d1,x1,r1,rfl,rfl,rfl,by simp⟩
theorem zie (l:List α)(e F:α->PV)(few:l.length<=1000000)(each:∀ B x,x∈l->∀ R:PV->AS->Prop,(∀ A4,Kp k ix A1.rho A4->A4.S=A1.S->R (F x) A4)->g (e x) ⟨B,inn k ix A1.rho,A1.S⟩ fun A2=>ue A2 R)(fin:Q (.lst (l.map F)) A1):compB k ix (l.map e) A1 g uYes ue Q:=by
 refine⟨by rw[List.length_map];exact few,fun d ys S=>ys=(l.take d.length).map F/\S=A1.S,⟨by simp,rfl⟩,?_,?_⟩
 ·rintro B d x r ys S e' ⟨rfl,rfl⟩;obtain⟨d1,x1,r1,e1,rfl,rfl,e2⟩:=zed e'
  have e0:l.take (d1.map e++[e x1]).length=d1++[x1]:=by
   rw[e1,List.length_append,List.length_map,List.length_singleton,<- List.singleton_append,<- List.append_assoc,List.take_left' (by simp)]
  have e3:(l.take (d1.map e).length).map F++[F x1]=(l.take (d1.map e++[e x1]).length).map F:=by
   rw[e0,<- e2];simp
  have q:=each B x1 (by rw[e1];simp) (fun y A4=>Kp k ix A1.rho A4/\(l.take (d1.map e).length).map F++[y]=(l.take (d1.map e++[e x1]).length).map F/\A4.S=A1.S) fun A4 k1 s1=>⟨k1,e3,s1⟩
  have e4:(fun A2=>ue A2 fun y A4=>Kp k ix A1.rho A4/\(l.take (d1.map e).length).map F++[y]=(l.take (d1.map e++[e x1]).length).map F/\A4.S=A1.S)=fun A2=>uYes A2 fun b A3=>if b=true then ue A3 fun y A4=>Kp k ix A1.rho A4/\(l.take (d1.map e).length).map F++[y]=(l.take (d1.map e++[e x1]).length).map F/\A4.S=A1.S else Kp k ix A1.rho A3/\(l.take (d1.map e).length).map F=(l.take (d1.map e++[e x1]).length).map F/\A3.S=A1.S:=by
   funext A2
   unfold uYes;dsimp only;rw[if_pos rfl]
  rw[e4] at q;exact q
 ·rintro ys S ⟨rfl,rfl⟩;rw[List.length_map,List.take_length];exact fin
theorem zpb (l:List α)(e F:α->PV)(p:α->Bool)(few:l.length<=1000000)(each:∀ B x,x∈l->∀(Rs:PV->AS->Prop)(Rn:AS->Prop),(∀ A4,p x=true->Kp k ix A1.rho A4->A4.S=A1.S->Rs (F x) A4)->(∀ A4,p x=false->Kp k ix A1.rho A4->A4.S=A1.S->Rn A4) ->
  g (e x) ⟨B,inn k ix A1.rho,A1.S⟩ fun A2=>t A2 fun b A3=>if b=true then ue A3 Rs else Rn A3)(fin:Q (.lst ((l.filter p).map F)) A1):compB k ix (l.map e) A1 g t ue Q:=by
 refine⟨by rw[List.length_map];exact few,fun d ys S=>ys=((l.take d.length).filter p).map F/\S=A1.S,⟨by simp,rfl⟩,?_,?_⟩
 ·rintro B d x r ys S e' ⟨rfl,rfl⟩;obtain⟨d1,x1,r1,e1,rfl,rfl,e2⟩:=zed e'
  have e3:l.take (d1.map e++[e x1]).length=d1++[x1]:=by
   rw[e1,List.length_append,List.length_map,List.length_singleton,<- List.singleton_append,<- List.append_assoc,List.take_left' (by simp)]
  dsimp (config:={failIfUnchanged:=false}) only;rw[e3,<- e2];refine each B x1 (by rw[e1];simp) _ _ (fun A4 h1 k1 s1=>⟨k1,?_,s1⟩) fun A4 h1 k1 s1=>⟨k1,?_,s1⟩
  ·rw[List.filter_append,List.filter_cons,h1];simp
  ·rw[List.filter_append,List.filter_cons,h1];simp
 ·rintro ys S ⟨rfl,rfl⟩;rw[List.length_map,List.take_length];exact fin
theorem zpa (l:List α)(e:α->PV)(I:List α->List PV->Option SSt->Prop)(few:l.length<=1000000)(i0:I [] [] A1.S)
  (each:∀ B d x r ys S,l=d++x::r->I d ys S->∀ R:PV->AS->Prop,(∀ y A4,Kp k ix A1.rho A4->I (d++[x]) (ys++[y]) A4.S->R y A4)->g (e x) ⟨B,inn k ix A1.rho,S⟩ fun A2=>ue A2 R)(fin:∀ ys S,I l ys S->Q (.lst ys) { A1 with S:=S }):compB k ix (l.map e) A1 g uYes ue Q:=by
 refine⟨by rw[List.length_map];exact few,fun d ys S=>I (l.take d.length) ys S,by simpa using i0,?_,?_⟩
 ·rintro B d x r ys S e' hI;obtain⟨d1,x1,r1,e1,rfl,rfl,e2⟩:=zed e'
  have e3:l.take (d1.map e++[e x1]).length=d1++[x1]:=by
   rw[e1,List.length_append,List.length_map,List.length_singleton,<- List.singleton_append,<- List.append_assoc,List.take_left' (by simp)]
  rw[<- e2] at hI;dsimp (config:={failIfUnchanged:=false}) only;rw[e3];have q:=each B d1 x1 r1 ys S e1 hI (fun y A4=>Kp k ix A1.rho A4/\I (d1++[x1]) (ys++[y]) A4.S) fun y A4 k1 s1=>⟨k1,s1⟩
  have e4:(fun A2=>ue A2 fun y A4=>Kp k ix A1.rho A4/\I (d1++[x1]) (ys++[y]) A4.S)=fun A2=>uYes A2 fun b A3=>if b=true then ue A3 fun y A4=>Kp k ix A1.rho A4/\I (d1++[x1]) (ys++[y]) A4.S else Kp k ix A1.rho A3/\I (d1++[x1]) ys A3.S:=by
   funext A2
   unfold uYes;dsimp only;rw[if_pos rfl]
  rw[e4] at q;exact q
 ·rintro ys S hI;rw[List.length_map,List.take_length] at hI;exact fin ys S hI
variable {C:AS->Prop}{ub:US}{E:UEnds}
theorem zcz (l:List α)(e:α->PV)(I:List α->AS->Prop)(h0:I [] A1)(hC:∀ d A2,I d A2->C A2)
  (step:∀ d x r A2,l=d++x::r->I d A2->g (e x) A2 fun A3=>ub { E with nx:=I (d++[x]),ct:=I (d++[x]),bk:=E.nx } A3)(fin:∀ A2,I l A2->E.nx A2):forB (l.map e) C A1 g ub E:=by
 refine⟨fun d A=>I (l.take d.length) A,by simpa using h0,fun d A2 h=>hC _ A2 h,?_,?_⟩
 ·rintro d x r A2 e' hI;obtain⟨d1,x1,r1,e1,rfl,rfl,e2⟩:=zed e'
  have e3:l.take (d1.map e++[e x1]).length=d1++[x1]:=by
   rw[e1,List.length_append,List.length_map,List.length_singleton,<- List.singleton_append,<- List.append_assoc,List.take_left' (by simp)]
  rw[<- e2] at hI;dsimp (config:={failIfUnchanged:=false}) only;rw[e3];exact step d1 x1 r1 A2 e1 hI
 ·intro A2 hI;rw[List.length_map,List.take_length] at hI;exact fin A2 hI
end
theorem dp_t {n:Nat}{xs:List PV}(h:∀ x∈xs,Dp n x):Dp (n+1) (.tup xs):=dp_tup.mpr (dp_all.mpr h)
theorem dp_l {n:Nat}{xs:List PV}(h:∀ x∈xs,Dp n x):Dp (n+1) (.lst xs):=dp_lst.mpr (dp_all.mpr h)
theorem zha (s:Str)(l:List Str):pin (.str s) (l.map PV.str)=l.contains s:=by
 unfold pin;rw[List.any_map,List.contains_eq_any_beq]
 congr 1
 funext y
 show(y==s)=(s==y);rw[Bool.eq_iff_iff,beq_iff_eq,beq_iff_eq];exact eq_comm
end L2
namespace L2
open PySem
def ex1 {α:Type}(P:α->Prop)(Q:α->AS->Prop)(A:AS):Prop:=∃ z,P z/\Q z A
section
variable {α:Type}{P:α->Prop}{Q:α->AS->Prop}{A:AS}{v:α}{p q p3:Prop}
theorem zac (v:α)(h:P v)(k:Q v A):ex1 P Q A:=⟨v,h,k⟩
theorem zqp:ex1 (fun z=>z=v) Q A=Q v A:=by simp [ex1]
theorem zoH:ex1 (fun z=>v=z) Q A=Q v A:=by simp [ex1]
theorem zqq:ex1 (fun z=>p/\z=v) Q A=(p/\Q v A):=by
 unfold ex1;exact propext ⟨fun⟨_,⟨h,rfl⟩,k⟩=>⟨h,k⟩,fun⟨h,k⟩=>⟨_,⟨h,rfl⟩,k⟩⟩
theorem zoI:ex1 (fun z=>p/\q/\p3/\z=v) Q A=(p/\q/\p3/\Q v A):=by
 unfold ex1;exact propext ⟨fun⟨_,⟨h,h2,h3,rfl⟩,k⟩=>⟨h,h2,h3,k⟩,fun⟨h,h2,h3,k⟩=>⟨_,⟨h,h2,h3,rfl⟩,k⟩⟩
end
def cif (c:Bool)(P Q:AS->Prop)(A:AS):Prop:=if c=true then P A else Q A
section
variable {c:Bool}{P Q:AS->Prop}{A:AS}
theorem zmd:cif true P Q A=P A:=by simp [cif]
theorem zme:cif false P Q A=Q A:=by simp [cif]
theorem zqw:cif (!c) P Q A=cif c Q P A:=by cases c<;>simp [cif]
theorem cifT (h:c=true)(k:P A):cif c P Q A:=by rw[h,zmd];exact k
theorem cifF (h:c=false)(k:Q A):cif c P Q A:=by rw[h,zme];exact k
theorem zah (h:c=true->P A)(k:c=false->Q A):cif c P Q A:=by
 cases c
 ·rw[zme];exact k rfl
 ·rw[zmd];exact h rfl
end
def varS (s:Option (Option Sl))(i:Nat)(A:AS)(Q:PV->AS->Prop):Prop:=match s with
 |some (some (.val x))=>Q x A
 |some (some (.own _ (.lst xs)))=>Q (.lst xs) (frz A i (.lst xs))
 |some (some (.own _ (.dic xs)))=>Q (.dic xs) (frz A i (.dic xs))
 |_=>False
def pkS (s:Option (Option Sl))(A:AS)(Q:PV->AS->Prop):Prop:=match s with
 |some (some (.val x))=>Q x A
 |some (some (.own _ (.lst xs)))=>Q (.lst xs) A
 |some (some (.own _ (.dic xs)))=>Q (.dic xs) A
 |some (some (.peek _ (.lst xs)))=>Q (.lst xs) A
 |some (some (.peek _ (.dic xs)))=>Q (.dic xs) A
 |_=>False
def ownC (nx:AS->Prop)(r:PV)(A:AS)(i:Nat):Prop:=∃ c:OC,r=c.pv/\∀ p,nx (put A i (.own p c))
def retO (s:Option (Option Sl))(i:Nat)(A:AS)(Q:PV->AS->Prop):Prop:=match s with
 |some (some (.own _ (.lst xs)))=>Q (.lst xs) (forget A i)
 |some (some (.own _ (.dic xs)))=>Q (.dic xs) (forget A i)
 |_=>False
def lstO (s:Option (Option Sl))(F:Addr->List PV->AS->Prop)(A:AS):Prop:=match s with
 |some (some (.own a (.lst xs)))=>F a xs A
 |_=>False
def dicO (s:Option (Option Sl))(F:Addr->List (PV×PV)->AS->Prop)(A:AS):Prop:=match s with
 |some (some (.own a (.dic xs)))=>F a xs A
 |_=>False
def itK (x:PV)(Q:List PV->(AS->Prop)->AS->Prop)(A:AS):Prop:=itV x fun xs=>Q xs (fun _=>True) A
def soK (x:PV)(Q:Option Int->AS->Prop)(A:AS):Prop:=∃ i,x=.int i/\Q (some i) A
def revK (x:PV)(Q:PV->AS->Prop)(A:AS):Prop:=∃ xs,x=.lst xs/\Q (.lst xs.reverse) A
def extK (x:PV)(Q:List PV->AS->Prop)(A:AS):Prop:=∃ ys,(x=.lst ys\/x=.tup ys)/\Q ys A
def intK (x:PV)(Q:Int->AS->Prop)(A:AS):Prop:=∃ i,x=.int i/\Q i A
def callS (T:Tr)(xs:List PV)(Q:PV->AS->Prop)(A:AS):Prop:=∃ st,A.S=some st/\T xs st fun r st'=>Q r { A with S:=some st' }
def runT (T:PS1)(st:SSt)(Q:PV->AS->Prop)(B:Addr->Prop)(rho:List (Option Sl)):Prop:=T st fun r st'=>Q r ⟨B,rho,some st'⟩
def dRaw (m:Int)(st:SSt)(Q:PV->AS->Prop)(B:Addr->Prop)(rho:List (Option Sl)):Prop:=st.n<=100000/\0<m/\m<2 ^ 200/\∀ r:Int,0<=r->r<m->Q (.int r) ⟨B,rho,some { st with n:=st.n+1 }⟩
def rtS (P:PV->SSt->Prop)(r:PV)(A:AS):Prop:=∃ st,A.S=some st/\P r st
section
variable {B:Addr->Prop}{rho:List (Option Sl)}{S:Option SSt}{E:UEnds}{u w:US}{t t2:UT}{ue ue2 ue3:UE}{ua:UA}{i j k n:Nat}{QV:PV->AS->Prop}{QT:Bool->AS->Prop}{QA:List PV->AS->Prop}{QG:AS->Prop}
 {QI:List PV->(AS->Prop)->AS->Prop}{QO:Option Int->AS->Prop}{G G':G2}{g1:G1}{ug:UG}{ugs:UGs}{ui:UI}{uo uo2:UO}{A:AS}{x y:PV}{xs:List PV}{a:Addr}{oc:OC}{ix:List Nat}{st:SSt}{nx:AS->Prop}{kvs:List (PV×PV)}{R:Rel}{T:Tr}{m:Int}
theorem zkC:uNext E ⟨B,rho,S⟩=E.nx ⟨B,rho,S⟩:=rfl
theorem zmv:uSeq u w E ⟨B,rho,S⟩=u { E with nx:=fun A1=>w E A1 } ⟨B,rho,S⟩:=rfl
theorem zpy:uIf t u w E ⟨B,rho,S⟩=t ⟨B,rho,S⟩ fun k A1=>cif k (u E) (w E) A1:=rfl
theorem zmu:uSet i ue E ⟨B,rho,S⟩=ue ⟨B,rho,S⟩ fun r A1=>E.nx (put A1 i (.val r)):=rfl
theorem zmB:uOwn i ue E ⟨B,rho,S⟩=ue ⟨B,rho,S⟩ fun r A1=>ownC E.nx r A1 i:=rfl
theorem zkE:uDrop ue E ⟨B,rho,S⟩=ue ⟨B,rho,S⟩ fun _ A1=>E.nx A1:=rfl
theorem zmz:uRet ue E ⟨B,rho,S⟩=ue ⟨B,rho,S⟩ fun r A1=>E.rt r A1:=rfl
theorem zkB:uRetF ue E ⟨B,rho,S⟩=ue ⟨B,rho,S⟩ fun r A1=>E.rf r A1:=rfl
theorem zkA:uRetO i E ⟨B,rho,S⟩=retO rho[i]? i ⟨B,rho,S⟩ E.rf:=rfl
theorem zpK {s:Sl}:put ⟨B,rho,S⟩ i s=⟨B,rho.set i (some s),S⟩:=rfl
theorem zqm:frz ⟨B,rho,S⟩ i oc=⟨B,rho.set i (some (.val oc.pv)),S⟩:=rfl
theorem pv_l:OC.pv (.lst xs)=.lst xs:=rfl
theorem pv_d:OC.pv (.dic kvs)=.dic kvs:=rfl
theorem zmq:uVar i ⟨B,rho,S⟩ QV=varS rho[i]? i ⟨B,rho,S⟩ QV:=rfl
theorem zmo:varS (some (some (.val x))) i A QV=QV x A:=rfl
theorem zmp:varS (some (some (.own a (.lst xs)))) i A QV=QV (.lst xs) (frz A i (.lst xs)):=rfl
theorem zky:varS (some (some (.own a (.dic kvs)))) i A QV=QV (.dic kvs) (frz A i (.dic kvs)):=rfl
theorem zpu:uPk i ⟨B,rho,S⟩ QV=pkS rho[i]? ⟨B,rho,S⟩ QV:=rfl
theorem zpL:pkS (some (some (.val x))) A QV=QV x A:=rfl
theorem zpM:pkS (some (some (.own a (.lst xs)))) A QV=QV (.lst xs) A:=rfl
theorem znk:pkS (some (some (.peek a (.dic kvs)))) A QV=QV (.dic kvs) A:=rfl
theorem uC_c:uC x ⟨B,rho,S⟩ QV=QV x ⟨B,rho,S⟩:=rfl
theorem zmE:uNil ⟨B,rho,S⟩ QA=QA [] ⟨B,rho,S⟩:=rfl
theorem zkG:uCons ue ua ⟨B,rho,S⟩ QA=ue ⟨B,rho,S⟩ fun x A1=>ua A1 fun xs A2=>QA (x::xs) A2:=rfl
theorem zms:uTup ua ⟨B,rho,S⟩ QV=ua ⟨B,rho,S⟩ fun xs A1=>xs.length<=1000/\QV (.tup xs) A1:=rfl
theorem zmG:uLst ua ⟨B,rho,S⟩ QV=ua ⟨B,rho,S⟩ fun xs A1=>xs.length<=1000/\QV (.lst xs) A1:=rfl
theorem u2_c:u2 G ue ue2 ⟨B,rho,S⟩ QV=ue ⟨B,rho,S⟩ fun x A1=>ue2 A1 fun y A2=>A2.rho=A1.rho/\ex1 (fun z=>G x y z) QV A2:=rfl
theorem zpz:u2t G ue ue2 ⟨B,rho,S⟩ QT=ue ⟨B,rho,S⟩ fun x A1=>ue2 A1 fun y A2=>A2.rho=A1.rho/\ex1 (fun z=>G x y (.bl z)) QT A2:=rfl
theorem zmM:uAnd t t2 ⟨B,rho,S⟩ QT=t ⟨B,rho,S⟩ fun c A1=>cif c (fun A=>t2 A QT) (fun A=>QT false A) A1:=rfl
theorem zpv:uOr t t2 ⟨B,rho,S⟩ QT=t ⟨B,rho,S⟩ fun c A1=>cif c (fun A=>QT true A) (fun A=>t2 A QT) A1:=rfl
theorem zmD:uNot t ⟨B,rho,S⟩ QT=t ⟨B,rho,S⟩ fun c A1=>QT (!c) A1:=rfl
theorem zkJ:uAndV ue ue2 ⟨B,rho,S⟩ QV=ue ⟨B,rho,S⟩ fun x A1=>ex1 (fun c=>x=.bl c) (fun c A=>cif c (fun A=>ue2 A QV) (fun A=>QV (.bl false) A) A) A1:=rfl
theorem zmC:uOrV ue ue2 ⟨B,rho,S⟩ QV=ue ⟨B,rho,S⟩ fun x A1=>ex1 (fun c=>x=.bl c) (fun c A=>cif c (fun A=>QV (.bl true) A) (fun A=>ue2 A QV) A) A1:=rfl
theorem zmt:uTru ue ⟨B,rho,S⟩ QT=ue ⟨B,rho,S⟩ fun x A1=>ex1 (fun c=>ptru x=some c) QT A1:=rfl
theorem zkD {ty:Ty}:uInst ty ue ⟨B,rho,S⟩ QV=ue ⟨B,rho,S⟩ fun x A1=>ex1 (fun c=>isTy ty x=some c) (fun c A=>QV (.bl c) A) A1:=rfl
theorem u1_c:u1 g1 ue ⟨B,rho,S⟩ QV=ue ⟨B,rho,S⟩ fun x A1=>ex1 (fun z=>g1 x z) QV A1:=rfl
theorem zmK:uAsg ue ug E ⟨B,rho,S⟩=ue ⟨B,rho,S⟩ fun x A1=>ug x A1 E.nx:=rfl
theorem gN_c:gN i x ⟨B,rho,S⟩ QG=QG (put ⟨B,rho,S⟩ i (.val x)):=rfl
theorem gT_c:gT n ugs (.tup xs) ⟨B,rho,S⟩ QG=(xs.length=n/\ugs xs ⟨B,rho,S⟩ QG):=by
 unfold gT;exact propext ⟨fun⟨_,e,h⟩=>by cases e;exact h,fun h=>⟨_,rfl,h⟩⟩
theorem zqd:gs0 [] ⟨B,rho,S⟩ QG=QG ⟨B,rho,S⟩:=by simp [gs0]
theorem zqc:gsC ug ugs (x::xs) ⟨B,rho,S⟩ QG=ug x ⟨B,rho,S⟩ fun A1=>ugs xs A1 QG:=by
 unfold gsC;exact propext ⟨fun⟨_,_,e,h⟩=>by cases e;exact h,fun h=>⟨_,_,rfl,h⟩⟩
theorem zpx:uIt ue ⟨B,rho,S⟩ QI=ue ⟨B,rho,S⟩ fun x A1=>itK x QI A1:=rfl
theorem zmH:uItN i ⟨B,rho,S⟩ QI=itS rho[i]? i ⟨B,rho,S⟩ QI:=rfl
theorem zpV:itS (some (some (.val x))) i A QI=itK x QI A:=rfl
theorem zpY:itK (.lst xs) QI A=QI xs (fun _=>True) A:=rfl
theorem zpX:itK (.tup xs) QI A=QI xs (fun _=>True) A:=rfl
theorem zpW:itS (some (some (.own a (.lst xs)))) i A QI=QI xs (fun A2=>A2.rho[i]?=some (some (.own a (.lst xs)))) A:=rfl
theorem zoh {F:Int->AS->Prop}:intK (.int m) F A=F m A:=by
 unfold intK;exact propext ⟨fun⟨_,e,h⟩=>by cases e;exact h,fun h=>⟨_,rfl,h⟩⟩
theorem zmx:uRng ue ⟨B,rho,S⟩ QI=ue ⟨B,rho,S⟩ fun x A1=>intK x (fun n A=>n<=1000000000 /\ -1000000000<=n/\QI ((List.range n.toNat).map fun(k:Nat)=>PV.int k) (fun _=>True) A) A1:=rfl
theorem zmI:uFor ui ug u E ⟨B,rho,S⟩=ui ⟨B,rho,S⟩ fun xs C A1=>forB xs C A1 ug u E:=rfl
theorem zkH:uComp k ix ui ug t ue ⟨B,rho,S⟩ QV=ui ⟨B,rho,S⟩ fun xs _ A1=>compB k ix xs A1 ug t ue QV:=rfl
theorem zkI:uCall R ua ⟨B,rho,S⟩ QV=ua ⟨B,rho,S⟩ fun xs A1=>ex1 (fun r=>R xs r) QV A1:=rfl
theorem ziz:uCallS T ua ⟨B,rho,S⟩ QV=ua ⟨B,rho,S⟩ fun xs A1=>callS T xs QV A1:=rfl
theorem zpr:uSt i j ⟨B,rho,some st⟩ QV=(rho[i]?=some (some (.val (.raw (.ref st.d))))/\QV (stV j st) ⟨B,rho,some st⟩):=by
 unfold uSt;exact propext ⟨fun⟨_,e,h⟩=>by cases e;exact h,fun h=>⟨_,rfl,h⟩⟩
def stPutK (i j:Nat)(nx:AS->Prop)(v:Int)(A:AS):Prop:=∃ st,A.S=some st/\A.rho[i]?=some (some (.val (.raw (.ref st.d))))/\nx { A with S:=some (stPut j v st) }
theorem ziE {v:Int}:stPutK i j nx v ⟨B,rho,some st⟩=(rho[i]?=some (some (.val (.raw (.ref st.d))))/\nx ⟨B,rho,some (stPut j v st)⟩):=by
 unfold stPutK;exact propext ⟨fun⟨_,e,h⟩=>by cases e;exact h,fun h=>⟨_,rfl,h⟩⟩
theorem ziv:uStPut i j ue E ⟨B,rho,S⟩=ue ⟨B,rho,S⟩ fun x A1=>intK x (fun v A=>stPutK i j E.nx v A) A1:=by
 unfold uStPut
 congr 1;funext x A1
 unfold intK stPutK;exact propext ⟨fun⟨m,n,a,b,c,d⟩=>⟨n,c,m,a,b,d⟩,fun⟨n,c,m,a,b,d⟩=>⟨m,n,a,b,c,d⟩⟩
theorem znM {F:Addr->List PV->AS->Prop}:lstO (some (some (.own a (.lst xs)))) F A=F a xs A:=rfl
theorem zoU {F:Addr->List (PV×PV)->AS->Prop}:dicO (some (some (.own a (.dic kvs)))) F A=F a kvs A:=rfl
theorem zmL:uApp i ue ⟨B,rho,S⟩ QV=lstO rho[i]? (fun a _ A=>ue A fun r A1=>ex1 (fun xs=>A1.rho[i]?=some (some (.own a (.lst xs)))) (fun xs A=>xs.length<=1000000/\QV .non (put A i (.own a (.lst (xs++[r]))))) A1) ⟨B,rho,S⟩:=by
 first
 |(unfold uApp lstO;rfl)
 |(unfold uApp lstO;dsimp only;generalize rho[i]?=s;rcases s with _|_|s<;>first|rfl|(cases s<;>first|rfl|(rename_i c;cases c<;>rfl)))
theorem zmA:uPop i ⟨B,rho,S⟩ QV=lstO rho[i]? (fun a xs A=>∃ ys y,xs=ys++[y]/\QV y (put A i (.own a (.lst ys)))) ⟨B,rho,S⟩:=by
 first
 |(unfold uPop lstO;rfl)
 |(unfold uPop lstO;dsimp only;generalize rho[i]?=s;rcases s with _|_|s<;>first|rfl|(cases s<;>first|rfl|(rename_i c;cases c<;>rfl)))
theorem zmJ:uExt i ue ⟨B,rho,S⟩ QV=lstO rho[i]? (fun a _ A=>ue A fun r A1=>ex1 (fun xs=>A1.rho[i]?=some (some (.own a (.lst xs)))) (fun xs A=>extK r (fun ys A=>xs.length+ys.length<=1000000/\QV .non (put A i (.own a (.lst (xs++ys))))) A) A1) ⟨B,rho,S⟩:=by
 unfold uExt lstO extK ex1;dsimp only;generalize rho[i]?=s;rcases s with _|_|s<;>first|rfl|(cases s<;>first|rfl|skip)
 rename_i c;cases c<;>first|rfl|skip
 refine congrArg (ue ⟨B,rho,S⟩) (funext fun r=>funext fun A1=>?_);exact propext ⟨fun⟨xs,ys,h1,h2,h3⟩=>⟨xs,h1,ys,h2,h3⟩,fun⟨xs,h1,ys,h2,h3⟩=>⟨xs,ys,h1,h2,h3⟩⟩
theorem zgo:uRemove i ue ⟨B,rho,S⟩ QV=lstO rho[i]? (fun a _ A=>ue A fun r A1=>ex1 (fun xs=>A1.rho[i]?=some (some (.own a (.lst xs)))) (fun xs A=>∃ j,(∃ n,n<=80/\Dp n r/\∀ x∈xs,Dp n x)/\(∃ p,xs[j]?=some p/\peq p r=true)/\(∀(m:Nat) p,m<j->xs[m]?=some p->peq p r=false)/\QV .non (put A i (.own a (.lst (xs.eraseIdx j))))) A1) ⟨B,rho,S⟩:=by
 unfold uRemove lstO ex1;dsimp only;generalize rho[i]?=s;rcases s with _|_|s<;>first|rfl|(cases s<;>first|rfl|skip)
 rename_i c;cases c<;>first|rfl|skip
 refine congrArg (ue ⟨B,rho,S⟩) (funext fun r=>funext fun A1=>?_);exact propext ⟨fun⟨xs,j,h1,h2⟩=>⟨xs,h1,j,h2⟩,fun⟨xs,h1,j,h2⟩=>⟨xs,j,h1,h2⟩⟩
theorem zkF:uDput i ue ue2 E ⟨B,rho,S⟩=ue ⟨B,rho,S⟩ fun v A1=>dicO A1.rho[i]? (fun a _ A=>ue2 A fun kp A2=>ex1 (fun xs=>A2.rho[i]?=some (some (.own a (.dic xs)))) (fun xs A=>ex1 (fun k=>pk kp=some k) (fun k A=>xs.length<=1000000/\E.nx (put A i (.own a (.dic (dput' xs k v))))) A) A2) A1:=by
 unfold uDput dicO ex1;congr 1;funext v A1;dsimp only;generalize A1.rho[i]?=s;rcases s with _|_|s<;>first|rfl|(cases s<;>first|rfl|skip)
 rename_i c;cases c<;>first|rfl|skip
 refine congrArg (ue2 A1) (funext fun r=>funext fun A2=>?_);exact propext ⟨fun⟨k,xs,h1,h2,h3⟩=>⟨xs,h2,k,h1,h3⟩,fun⟨xs,h2,k,h1,h3⟩=>⟨k,xs,h1,h2,h3⟩⟩
theorem zny:ownC nx (.lst xs) A i=∀ p,nx (put A i (.own p (.lst xs))):=by
 unfold ownC;refine propext ⟨fun⟨c,e,h⟩=>?_,fun h=>⟨.lst xs,rfl,h⟩⟩
 cases c with
 |lst ys=>cases e;exact h
 |dic _=>cases e
 |ins _ _ _=>cases e
theorem znz:ownC nx (.dic kvs) A i=∀ p,nx (put A i (.own p (.dic kvs))):=by
 unfold ownC;refine propext ⟨fun⟨c,e,h⟩=>?_,fun h=>⟨.dic kvs,rfl,h⟩⟩
 cases c with
 |dic ys=>cases e;exact h
 |lst _=>cases e
 |ins _ _ _=>cases e
theorem zmY:retO (some (some (.own a (.lst xs)))) i A QV=QV (.lst xs) (forget A i):=rfl
theorem zpw:uNo ⟨B,rho,S⟩ QO=QO none ⟨B,rho,S⟩:=rfl
theorem zps:uSo ue ⟨B,rho,S⟩ QO=ue ⟨B,rho,S⟩ fun x A1=>soK x QO A1:=rfl
theorem zpH:soK (.int m) QO A=QO (some m) A:=by
 unfold soK;exact propext ⟨fun⟨_,e,h⟩=>by cases e;exact h,fun h=>⟨_,rfl,h⟩⟩
theorem zpt {g:PV->Option Int->Option Int->PV->Prop}:uSl g ue uo uo2 ⟨B,rho,S⟩ QV=ue ⟨B,rho,S⟩ fun x A1=>uo A1 fun l A2=>uo2 A2 fun h A3=>A3.rho=A1.rho/\ex1 (fun z=>g x l h z) QV A3:=rfl
theorem zmy:uRev ue ⟨B,rho,S⟩ QV=ue ⟨B,rho,S⟩ fun x A1=>revK x QV A1:=rfl
theorem zmX:revK (.lst xs) QV A=QV (.lst xs.reverse) A:=by
 unfold revK;exact propext ⟨fun⟨_,e,h⟩=>by cases e;exact h,fun h=>⟨_,rfl,h⟩⟩
theorem zoG {F:List PV->AS->Prop}:extK (.lst xs) F A=F xs A:=by
 unfold extK;exact propext ⟨fun⟨_,e,h⟩=>by rcases e with e|e<;>cases e;exact h,fun h=>⟨_,.inl rfl,h⟩⟩
theorem zoF {F:List PV->AS->Prop}:extK (.tup xs) F A=F xs A:=by
 unfold extK;exact propext ⟨fun⟨_,e,h⟩=>by rcases e with e|e<;>cases e;exact h,fun h=>⟨_,.inr rfl,h⟩⟩
theorem zmF:uNeg ue ⟨B,rho,S⟩ QV=ue ⟨B,rho,S⟩ fun x A1=>intK x (fun i A=>QV (.int (-i)) A) A1:=rfl
theorem zlK {r:PV}:endsV false r=⟨fun _=>r=.non,fun r' _=>r'=r,fun _ _=>False,fun _=>False,fun _=>False⟩:=by simp [endsV]
theorem zlJ {r:PV}:endsV true r=⟨fun _=>False,fun _ _=>False,fun r' _=>r'=r,fun _=>False,fun _=>False⟩:=by simp [endsV]
theorem zlL {P:PV->SSt->Prop}:endsS false P=⟨fun A=>rtS P .non A,fun r A=>rtS P r A,fun _ _=>False,fun _=>False,fun _=>False⟩:=by simp [endsS,rtS]
theorem zpI {P:PV->SSt->Prop}:rtS P x ⟨B,rho,some st⟩=P x st:=by
 unfold rtS;exact propext ⟨fun⟨_,e,h⟩=>by cases e;exact h,fun h=>⟨_,rfl,h⟩⟩
theorem zmP:runT (zat (.int m)) st QV B rho=dRaw m st QV B rho:=by
 unfold runT zat dRaw;exact propext ⟨fun⟨_,e,h⟩=>by cases e;exact h,fun h=>⟨_,rfl,h⟩⟩
end
section
variable {P1:PV->PV->Prop}{P2:PV->PV->PV->Prop}{P3:PV->PV->PV->PV->Prop}{P4:PV->PV->PV->PV->PV->Prop}{a b c d r:PV}{st:SSt}{Q:PV->SSt->Prop}{T1:PS1}{T2:PV->PS1}{T3:PV->PV->PS1}{T4:PV->PV->PV->PS1}{α:Type}{l:List α}{x y z w v:α}
theorem rl1:Rl1 P1 [a] r=P1 a r:=by simp [Rl1]
theorem rl2:Rl2 P2 [a,b] r=P2 a b r:=by
 unfold Rl2;exact propext ⟨fun⟨_,_,e,h⟩=>by cases e;exact h,fun h=>⟨_,_,rfl,h⟩⟩
end
end L2
namespace L2
open PySem
section
variable {α:Type}{l:List α}{x y u v w:α}
theorem zbV {i:Int}(h0:0<=i)(e:l[i.toNat]?=some x):atI l i=some x:=by
 have hl:i.toNat<l.length:=(List.getElem?_eq_some_iff.mp e).1;unfold atI ixN;rw[if_pos h0,if_pos (by omega)];exact e
theorem at_0:atI (x::l) 0=some x:=zbV (by decide) rfl
theorem at_1:atI (x::y::l) 1=some y:=zbV (by decide) rfl
theorem at_2:atI (x::y::u::l) 2=some u:=zbV (by decide) rfl
theorem at_3:atI (x::y::u::v::l) 3=some v:=zbV (by decide) rfl
end
section
variable {n:Bool}{s t:Str}{i j:Int}{z:PV}{l:List Str}
theorem zqj:gEq n (.str s) (.str t) z=(z=.bl (n^^(s==t))):=by
 unfold gEq;exact propext ⟨fun h=>h.2,fun h=>⟨⟨0,by decide,zbo _ _,zbo _ _⟩,h⟩⟩
theorem zql:gEq n (.int i) (.int j) z=(z=.bl (n^^(i==j))):=by
 unfold gEq;exact propext ⟨fun h=>h.2,fun h=>⟨⟨0,by decide,zeB _ _,zeB _ _⟩,h⟩⟩
theorem dps (k:Nat){l:List Str}:∀ p∈l.map PV.str,Dp k p:=fun p hp=>by obtain⟨q,_,rfl⟩:=List.mem_map.mp hp;exact zbo _ _
theorem zlD:gInA n (.str s) (.lst (l.map PV.str)) z=(z=.bl (n^^l.contains s)):=by
 rw[zkm,zha];exact propext ⟨fun h=>h.2.2,fun h=>⟨zkd s,⟨0,by decide,zbo _ _,dps 0⟩,h⟩⟩
theorem zhH:gInA n (.str s) (.tup (l.map PV.str)) z=(z=.bl (n^^l.contains s)):=by
 rw[zkl,zha];exact propext ⟨fun h=>h.2.2,fun h=>⟨zkd s,⟨0,by decide,zbo _ _,dps 0⟩,h⟩⟩
theorem zlE {α:Type}{l:List α}{f:α->Str}:gInA n (.str s) (.lst (l.map fun x=>PV.str (f x))) z=(z=.bl (n^^(l.map f).contains s)):=by
 rw[<- zlD,List.map_map];rfl
end
theorem zcj {p x:PV}{r:List (PV×PV)}{k:Key}:dlook ((p,x)::r) k=if pk p=some k then some x else dlook r k:=rfl
theorem zeC {kvs:List (PV×PV)}{k:Key}{v:PV}(k':Key):dlook (dput' kvs k v) k'=if k=k' then some v else dlook kvs k':=by
 have app:∀(l:List (PV×PV)),dlook (l++[(kP k,v)]) k'=match dlook l k' with|some x=>some x|none=>if k=k' then some v else none:=by
  intro l
  induction l with
  |nil=>simp [dlook,zpU]
  |cons a l ih=>
   obtain⟨p,x⟩:=a;rw[List.cons_append,zcj,zcj];by_cases h:pk p=some k'
   ·rw[if_pos h,if_pos h]
   ·rw[if_neg h,if_neg h,ih]
 have upd:∀(l:List (PV×PV)),dlook (l.map fun kv=>if pk kv.1=some k then (kv.1,v) else kv) k'=if k=k' then (if (dlook l k).isSome then some v else none) else dlook l k':=by
  intro l
  induction l with
  |nil=>simp [dlook]
  |cons a l ih=>
   obtain⟨p,x⟩:=a;rw[List.map_cons,zcj,zcj];by_cases h:pk p=some k
   ·rw[if_pos h,zcj];by_cases e:k=k'
    ·subst e;simp [h]
    ·have h':¬ pk p=some k':=by rw[h];exact fun z=>e (Option.some.inj z)
     rw[if_neg e,if_neg h',if_neg h',ih,if_neg e]
   ·rw[if_neg h,zcj];by_cases e:k=k'
    ·subst e;rw[if_pos rfl,if_neg h,if_neg h,ih,if_pos rfl]
    ·rw[if_neg e,ih,if_neg e]
 unfold dput';by_cases hs:(dlook kvs k).isSome=true
 ·rw[if_pos hs,upd,if_pos hs]
 ·rw[if_neg hs,app];by_cases e:k=k'
  ·subst e
   cases h:dlook kvs k with
   |none=>rfl
   |some z=>rw[h] at hs;exact absurd rfl hs
  ·simp only[if_neg e];cases dlook kvs k'<;>rfl
theorem zco {α:Type}{k:Nat}{ix:List Nat}{A1:AS}{g:UG}{t:UT}{ue:UE}{Q:PV->AS->Prop}(l:List α)(e F:α->PV)(p:α->Bool)(few:l.length<=1000000)(each:∀ B x,x∈l->∀(Rs:PV->AS->Prop)(Rn:AS->Prop),(∀ A4,p x=true->Kp k ix A1.rho A4->A4.S=A1.S->Rs (F x) A4)->(∀ A4,p x=false->Kp k ix A1.rho A4->A4.S=A1.S->Rn A4) ->
  g (e x) ⟨B,inn k ix A1.rho,A1.S⟩ fun A2=>t A2 fun b A3=>cif b (fun A=>ue A Rs) Rn A3)(fin:Q (.lst ((l.filter p).map F)) A1):compB k ix (l.map e) A1 g t ue Q:=zpb l e F p few each fin
theorem pk_s {s:Str}:pk (.str s)=some (.inr s):=rfl
end L2
namespace L2
open PySem
section
variable {d p:Addr}{n:Nat}{b:Bs}{Q:PV->AS->Prop}{B:Addr->Prop}{rho:List (Option Sl)}{T1:PS1}{T2:PV->PS1}{T3:PV->PV->PS1}{T4:PV->PV->PV->PS1}{x y z:PV}{m:Int}
theorem zdi {T:Tr}{xs:List PV}{st:SSt}:callS T xs Q ⟨B,rho,some st⟩=T xs st fun r st'=>Q r ⟨B,rho,some st'⟩:=by
 unfold callS;exact propext ⟨fun⟨_,e,h⟩=>by cases e;exact h,fun h=>⟨_,rfl,h⟩⟩
theorem tr1c:callS (Tr1 T1) [.raw (.ref d)] Q ⟨B,rho,some ⟨d,p,n,b⟩⟩=runT T1 ⟨d,p,n,b⟩ Q B rho:=by
 rw[zdi];exact propext ⟨fun⟨_,h⟩=>h,fun h=>⟨rfl,h⟩⟩
theorem tr2c:callS (Tr2 T2) [.raw (.ref d),x] Q ⟨B,rho,some ⟨d,p,n,b⟩⟩=runT (T2 x) ⟨d,p,n,b⟩ Q B rho:=by
 rw[zdi];exact propext ⟨fun⟨_,e,h⟩=>by cases e;exact h,fun h=>⟨_,rfl,h⟩⟩
theorem tr3c:callS (Tr3 T3) [.raw (.ref d),x,y] Q ⟨B,rho,some ⟨d,p,n,b⟩⟩=runT (T3 x y) ⟨d,p,n,b⟩ Q B rho:=by
 rw[zdi];exact propext ⟨fun⟨_,_,e,h⟩=>by cases e;exact h,fun h=>⟨_,_,rfl,h⟩⟩
theorem tr4c:callS (Tr4 T4) [.raw (.ref d),x,y,z] Q ⟨B,rho,some ⟨d,p,n,b⟩⟩=runT (T4 x y z) ⟨d,p,n,b⟩ Q B rho:=by
 rw[zdi];exact propext ⟨fun⟨_,_,_,e,h⟩=>by cases e;exact h,fun h=>⟨_,_,_,rfl,h⟩⟩
theorem draw (h1:n<=100000)(h2:0<m)(h3:m<2 ^ 200)(h4:∀ r:Int,0<=r->r<m->Q (.int r) ⟨B,rho,some ⟨d,p,n+1,b⟩⟩):dRaw m ⟨d,p,n,b⟩ Q B rho:=⟨h1,h2,h3,h4⟩
end
section
variable {A1:AS}{g:UG}{C:AS->Prop}{ub:US}{E:UEnds}{t:UT}{ue:UE}{k:Nat}{ix:List Nat}{Q:PV->AS->Prop}
theorem zjo (N:Nat)(I:Nat->AS->Prop)(h0:I 0 A1)(hC:∀ i A2,I i A2->C A2)
  (step:∀ i A2,i<N->I i A2->g (.int i) A2 fun A3=>ub { E with nx:=I (i+1),ct:=I (i+1),bk:=E.nx } A3)(fin:∀ A2,I N A2->E.nx A2):forB ((List.range N).map fun(k:Nat)=>PV.int k) C A1 g ub E:=by
 refine zcz (List.range N) (fun(k:Nat)=>PV.int k) (fun d A=>I d.length A) h0 (fun d A h=>hC _ A h) ?_ ?_
 ·intro d x r A2 e hI
  have hx:x=d.length/\d.length<N:=by
   have h1:(List.range N)[d.length]?=some x:=by rw[e];simp
   obtain⟨h2,h3⟩:=List.getElem?_eq_some_iff.mp h1;rw[List.length_range] at h2;rw[List.getElem_range] at h3;exact⟨h3.symm,h2⟩
  rw[hx.1];rw[List.length_append,List.length_singleton];exact step _ A2 hx.2 hI
 ·intro A2 h;rw[List.length_range] at h;exact fin A2 h
theorem zkr (N:Nat)(I:Nat->List PV->Option SSt->Prop)(few:N<=1000000)(i0:I 0 [] A1.S)
  (each:∀ B i ys S,i<N->I i ys S->∀ R:PV->AS->Prop,(∀ y A4,Kp k ix A1.rho A4->I (i+1) (ys++[y]) A4.S->R y A4)->g (.int i) ⟨B,inn k ix A1.rho,S⟩ fun A2=>ue A2 R)(fin:∀ ys S,I N ys S->Q (.lst ys) { A1 with S:=S }):compB k ix ((List.range N).map fun(k:Nat)=>PV.int k) A1 g uYes ue Q:=by
 refine zpa (List.range N) (fun(k:Nat)=>PV.int k) (fun d ys S=>I d.length ys S) (by rw[List.length_range];exact few) i0 ?_ ?_
 ·intro B d x r ys S e hI R hR
  have hx:x=d.length/\d.length<N:=by
   have h1:(List.range N)[d.length]?=some x:=by rw[e];simp
   obtain⟨h2,h3⟩:=List.getElem?_eq_some_iff.mp h1;rw[List.length_range] at h2;rw[List.getElem_range] at h3;exact⟨h3.symm,h2⟩
  obtain⟨rfl,hx⟩:=hx;refine each B d.length ys S hx hI R fun y A4 k1 i1=>hR y A4 k1 ?_;rw[List.length_append,List.length_singleton];exact i1
 ·intro ys S h;rw[List.length_range] at h;exact fin ys S h
end
theorem zbA {xs:List PV}{i:Int}(h0:0<=i)(h1:i<=xs.length):cutP xs (some i) none=xs.drop i.toNat:=by
 unfold cutP
 have e:HT.sIx xs.length 0 (some i)=i.toNat:=by
  show(if i<0 then _ else min i.toNat xs.length)=_;rw[if_neg (by omega)];omega
 rw[e,HT.sIx_none,List.take_of_length_le (by rw[List.length_drop];exact Nat.le_refl _)]
theorem zfH {xs:List PV}{i:Int}(h0:0<=i)(h1:i<=xs.length):cutP xs none (some i)=xs.take i.toNat:=by
 unfold cutP
 have e:HT.sIx xs.length xs.length (some i)=i.toNat:=by
  show(if i<0 then _ else min i.toNat xs.length)=_;rw[if_neg (by omega)];omega
 rw[e,HT.sIx_none,Nat.sub_zero,List.drop_zero]
def Nx (st:SSt)(c:Nat)(st':SSt):Prop:=∃ n,n<=st.n+c/\st'=⟨st.d,st.a,n,st.b⟩
end L2
namespace L2
open PySem
def endsL:UEnds:=⟨fun _=>False,fun r _=>r=.bl true,fun r _=>r=.bl true,fun _=>False,fun _=>False⟩
theorem zkR {K:Frag}{H:Hp}{a:Addr}{ns:List Int}(hO:Only H)(hS:SqL K H a (ns.map V.int))(hl:ns.length<=63):ScrF K H a:=by
 rcases hS with (h|h)|h
 ·rcases hO a with z|⟨o,xs,z⟩<;>(rw[h] at z;cases z)
 ·exact⟨ns,hl,.inl h⟩
 ·exact⟨ns,hl,.inr h⟩
theorem zje {K:Frag}{u:US}{H H1:Hp}{a d:Addr}{D:Bs}{n0:Nat}{ns:List Int}(hO:Only H)(hS:SqL K H a (ns.map V.int))(hl:ns.length<=63)(S1:StAt H1 d a n0 D)(s1:Same H H1)(m:Nat)
  (q:u endsL ⟨fun b=>b=d,some (.val (.raw (.ref a)))::some (.val (.raw (.ref d)))::List.replicate m none,some ⟨d,a,n0,D⟩⟩){Q:VK}(hQ:∀ H',Q (.bl true) H') :
  liftS K u { nx:=fun _ H'=>Q .non H',rt:=Q } (some (.ref a)::some (.ref d)::List.replicate m none) H1:=by
 obtain⟨kvs,hd⟩:=S1.dk
 have nslot:∀(i:Nat)(s:Sl),(some (Sl.val (.raw (.ref a)))::some (.val (.raw (.ref d)))::List.replicate m none:List (Option Sl))[i]?=some (some s)->(i=0/\s=.val (.raw (.ref a)))\/(i=1/\s=.val (.raw (.ref d))):=by
  intro i s h;rcases i with _|_|i
  ·cases h;exact .inl ⟨rfl,rfl⟩
  ·cases h;exact .inr ⟨rfl,rfl⟩
  ·rw[List.getElem?_cons_succ,List.getElem?_cons_succ,List.getElem?_replicate] at h
   split at h<;>cases h
 refine⟨_,endsL,⟨?_,?_,?_,?_,?_,?_⟩,q,?_⟩
 ·simp
 ·intro i s h;rcases nslot i s h with ⟨rfl,rfl⟩|⟨rfl,rfl⟩
  ·exact⟨_,rfl,.raw a⟩
  ·exact⟨_,rfl,.raw d⟩
 ·rintro b rfl;rw[hd];intro z;cases z
 ·intro i j b c c' h1 h2;rcases nslot _ _ h1 with ⟨_,z⟩|⟨_,z⟩<;>cases z
 ·rintro st h;cases h;exact⟨rfl,S1,(zkR hO hS hl).keep fun o=>s1 _ o⟩
 ·intro i b c st h1 h2;rcases nslot _ _ h1 with ⟨_,z⟩|⟨_,z⟩<;>cases z
 ·refine⟨fun A1 σ1 H2 p=>p.elim,?_,?_,?_,fun A1 σ1 H2 p=>p.elim,fun A1 σ1 H2 p=>p.elim⟩
  ·rintro r A1 σ1 v H2 rfl R1 S2 rv;cases rv;exact hQ _
  ·rintro r A1 σ1 v H0 H2 rfl R1 S2 ⟨p,c,e,_⟩;cases c<;>cases e
  ·intro i b c A1 σ1 H2 hi hld p R1 S2;have p':c.pv=.bl true:=p;cases c<;>cases p'
end L2
set_option maxHeartbeats 1000000
namespace L2
open PySem PySem.Spec PyProof.Rows
section
variable {X:Cx}{K:Frag}{a b e:Expr}{ua ub ue:UE}{p pos apos cpos npos:Pos}{k:Nat}
def r22 (r:List V->Hp->VK->Prop):R2:=fun x y H Q=>r [x,y] H Q
theorem e_b2 {id:String}{x:Str}{r:List V->Hp->VK->Prop}{G:G2}(hc:CallR X (.builtin id) r)(br:Br2 K (r22 r) G)(hv:bootBuiltins x=some (.builtin id))(hm:X.mg x=none)(ha:PE X a (liftQ K ua))(hb:PE X b (liftQ K ub))(hg:Gl X x:=by rfl)(hn:x≠"__name__":=by decide)(hd:(x==("__debug__":Str))=false:=by decide)
  (hs:starEach [a,b] X.env=[(false,eval a X.env),(false,eval b X.env)]:=by rfl)(hs2:starEach [b] X.env=[(false,eval b X.env)]:=by rfl):PE X (.Call (.Name x p) [a,b] [] pos) (liftV K (u2 G ua ub)):=
 (zau hc hg hm hv (zaf ha (zaf hb pa_nil hs2) (by rw[hs,hs2])) hn hd (by rw[hs,hs2]) (hpl:=by rw[hs2];rfl)).mono (op2 (r:=r22 r) br)
def gMin:G2:=gI0 fun i j=>.int (if j<i then j else i)
def gMax:G2:=gI0 fun i j=>.int (if j > i then j else i)
theorem zlQ (hc:X.calm=true)(hm:X.mg "min"=none)(ha:PE X a (liftQ K ua))(hb:PE X b (liftQ K ub))(hg:Gl X "min":=by rfl)
  (hs:starEach [a,b] X.env=[(false,eval a X.env),(false,eval b X.env)]:=by rfl)(hs2:starEach [b] X.env=[(false,eval b X.env)]:=by rfl):PE X (.Call (.Name "min" p) [a,b] [] pos) (liftV K (u2 gMin ua ub)):=by
 refine e_b2 (zij hc) ?_ (by with_unfolding_all rfl) hm ha hb hg (hs:=hs) (hs2:=hs2);intro H A σ x y v w z Q R q1 q2 g c;cases x<;>cases y<;>try exact(show False from g).elim
 cases (show z=_ from g);cases q1.int;cases q2.int;exact⟨_,_,rfl,c _ H (Same.refl H) (.int _)⟩
theorem zoO (hc:X.calm=true)(hm:X.mg "max"=none)(ha:PE X a (liftQ K ua))(hb:PE X b (liftQ K ub))(hg:Gl X "max":=by rfl)
  (hs:starEach [a,b] X.env=[(false,eval a X.env),(false,eval b X.env)]:=by rfl)(hs2:starEach [b] X.env=[(false,eval b X.env)]:=by rfl):PE X (.Call (.Name "max" p) [a,b] [] pos) (liftV K (u2 gMax ua ub)):=by
 refine e_b2 (zik hc) ?_ (by with_unfolding_all rfl) hm ha hb hg (hs:=hs) (hs2:=hs2);intro H A σ x y v w z Q R q1 q2 g c;cases x<;>cases y<;>try exact(show False from g).elim
 cases (show z=_ from g);cases q1.int;cases q2.int;exact⟨_,_,rfl,c _ H (Same.refl H) (.int _)⟩
def uPopAt (i:Nat)(ue:UE):UE:=fun A Q=>match A.rho[i]? with
 |some (some (.own a (.lst _)))=>ue A fun r A1=>∃ xs j y,A1.rho[i]?=some (some (.own a (.lst xs)))/\r=.int (j:Nat)/\j<=1000000/\xs[j]?=some y/\Q y (put A1 i (.own a (.lst (xs.eraseIdx j))))
 |_=>False
theorem zlO (hK:X.K=K)(i:Nat){x:Str}(he:PE X e (liftV K ue))(hN:X.N[i]?=some x:=by rfl)(hv:Vis X.env.scope x:=by first|exact Or.inl rfl|exact Or.inr (Or.inl rfl)|exact Or.inr (Or.inr rfl))(hd:(x==("__debug__":Str))=false:=by decide)(hcd:(x==("__classdict__":Str))=false:=by decide)
  (hbase:attributeBase (.Name x npos) "pop" X.env (eval (.Name x npos) X.env)=eval (.Name x npos) X.env:=by rfl)
  (hfew:((backTo cpos (starEach [e] X.env)).all (fun x=>!x.1)&&(backToKw cpos (keywordEach [] X.env)).all (fun x=>x.1.isSome)&&decide ([e].length+([]:List Keyword).length+(if ([]:List Keyword).isEmpty then 0 else 1)<30))=true:=by rfl)
  (hline:(apos.endLine==cpos.line)=true:=by rfl)(hs:starEach [e] X.env=[(false,eval e X.env)]:=by rfl):PE X (.Call (.Attribute (.Name x npos) "pop" apos) [e] [] cpos) (liftV K (uPopAt i ue)):=by
 subst hK;refine(zfT PySem.F.plainAttrs_list PySem.F.slot_list_pop PySem.F.type_list_pop zjc (zaM hN hv hd hcd) (zaf he pa_nil hs) hbase hfew hline hs rfl).mono fun σ H Q ⟨A,P,R,h,c⟩=>?_;unfold uPopAt at h
 split at h
 ·rename_i a ys hx;obtain⟨v,ev,rfl,nb,vs,h1,h2⟩:=R.sl i _ hx;refine⟨_,ev,.inl ⟨rfl,_,SqL.of h1⟩,A,_,R,h,fun r A1 w H1 p R1 S1 rw'=>?_⟩;obtain⟨xs,j,y,hA,rfl,few,hy,p⟩:=p;obtain⟨_,_,_,_,us,g1,g2⟩:=R1.sl i _ hA;cases rw';obtain⟨u,hu,ru⟩:=g2.at hy;have hl:j<us.length:=(List.getElem?_eq_some_iff.mp hu).1;obtain⟨R2,S2⟩:=R1.turn hA (g2.erase j);exact⟨a,us,j,j,u,rfl,rfl,g1,by omega,by omega,seqIndex_of (by omega) (by omega),hu,c _ _ _ _ p R2 (S1.trans S2) (ru.imp (R1.keep S2))⟩
 ·exact h.elim
def gDictA:G1
 |.lst xs,z=>gDict (.lst xs) z
 |.dic kvs,z=>z=.dic kvs
 |_,_=>False
def gRep:G2
 |.lst xs,.int k,z=>-(2 ^ 63)<=k/\k<2 ^ 63/\xs.length*k.toNat<=1000000/\z=.lst (List.replicate k.toNat xs).flatten
 |_,_,_=>False
theorem RVs.rep {N:Addr->Prop}{H:Hp}{xs:List PV}{vs:List V}(h:RVs K N H xs vs)(n:Nat):RVs K N H (List.replicate n xs).flatten (List.replicate n vs).flatten:=by
 induction n with
 |zero=>exact .nil
 |succ n ih=>
  rw[List.replicate_succ,List.replicate_succ,List.flatten_cons,List.flatten_cons];exact h.app ih
theorem zqs (ha:PE X a (liftQ K ua))(hb:PE X b (liftQ K ub)):PE X (.BinOp a .Mult b pos) (liftF K (u2 gRep ua ub)):=by
 refine zjV znC ?_ ha hb;intro H A σ x y v w z Q R q1 q2 g c;cases x<;>cases y<;>try exact(show False from g).elim
 obtain⟨h1,h2,h3,rfl⟩:=g;obtain⟨l,vs,rfl,g1,g2⟩:=q1.lst R;cases q2.int;exact⟨l,_,vs,rfl,rfl,g1,h1,h2,by rw[<- g2.len];exact zbS h3,fun q hq=>c _ _ ⟨q,.lst _,rfl,rfl,hq,zal hq _,_,zab,g2.rep _⟩⟩
end
end L2
namespace L2
open PySem PySem.Spec PyProof.Rows
def mergeP (kvs more:List (PV×PV)):List (PV×PV):=more.foldl (fun acc kv=>match pk kv.1 with|some k=>dput' acc k kv.2|none=>acc) kvs
theorem zeb {K:Frag}{N:Addr->Prop}{H:Hp}:∀{more:List (PV×PV)}{more':List (Key×V)}{kvs:List (PV×PV)}{kws:List (Key×V)},RKs K N H more (more'.map kpair)->RKs K N H kvs (kws.map kpair)->RKs K N H (mergeP kvs more) ((mergeK kws more').map kpair)
 |[],[],_,_,_,h=>h
 |[],_::_,_,_,h,_=>nomatch h
 |_::_,[],_,_,h,_=>nomatch h
 |(p,x)::more,kw::more',kvs,kws,h,g=>by
  cases h with
  |cons r1 r2 r3=>
   have e:=ziJ r1;unfold mergeP mergeK;rw[List.foldl_cons,List.foldl_cons];simp only[e];exact zeb r3 (zeR g kw.1 r2)
section
variable {X:Cx}{K:Frag}{e:Expr}{ue:UE}{p pos apos cpos npos:Pos}
theorem zfl (hK:X.K=K)(hc:X.calm=true)(hm:X.mg "dict"=none)(he:PE X e (liftQ K ue))(hg:Gl X "dict":=by rfl)(hs:starEach [e] X.env=[(false,eval e X.env)]:=by rfl):PE X (.Call (.Name "dict" p) [e] [] pos) (liftF K (u1 gDictA ue)):=by
 subst hK;refine zoM (CallR.or (zdh hc) zeI) ?_ PyProof.Rows.boot_dict hm he hg (hs:=hs);intro H A σ x v z Q R q1 g c;cases x<;>first|exact(show False from g).elim|skip
 ·rename_i xs;obtain⟨l,hl,few,rfl⟩:=(show gDict (.lst xs) z from g);obtain⟨a,vs,rfl,h1,h2⟩:=q1.lst R;obtain⟨kvs,g1,g2,g3⟩:=zhx h2 hl;exact .inl ⟨a,vs,kvs,rfl,h1,g1,by omega,fun q hq=>c _ _ ⟨q,.dic _,rfl,rfl,hq,zal hq _,_,zab,g3 [] [] .nil⟩⟩
 ·rename_i kvs;cases (show z=.dic kvs from g);obtain⟨a,kws,rfl,h1,h2⟩:=q1.dic R;exact .inr ⟨a,kws,rfl,h1,fun q hq=>c _ _ ⟨q,.dic _,rfl,rfl,hq,zal hq _,_,zab,h2⟩⟩
def uUpd (i:Nat)(ue:UE):UE:=fun A Q=>match A.rho[i]? with
 |some (some (.own a (.dic _)))=>ue A fun r A1=>∃ xs ys,A1.rho[i]?=some (some (.own a (.dic xs)))/\r=.dic ys/\xs.length+ys.length<=1000000/\Q .non (put A1 i (.own a (.dic (mergeP xs ys))))
 |_=>False
theorem zoL (hK:X.K=K)(i:Nat){x:Str}(he:PE X e (liftV K ue))(hN:X.N[i]?=some x:=by rfl)(hv:Vis X.env.scope x:=by first|exact Or.inl rfl|exact Or.inr (Or.inl rfl)|exact Or.inr (Or.inr rfl))(hd:(x==("__debug__":Str))=false:=by decide)(hcd:(x==("__classdict__":Str))=false:=by decide)
  (hbase:attributeBase (.Name x npos) "update" X.env (eval (.Name x npos) X.env)=eval (.Name x npos) X.env:=by rfl)
  (hfew:((backTo cpos (starEach [e] X.env)).all (fun x=>!x.1)&&(backToKw cpos (keywordEach [] X.env)).all (fun x=>x.1.isSome)&&decide ([e].length+([]:List Keyword).length+(if ([]:List Keyword).isEmpty then 0 else 1)<30))=true:=by rfl)
  (hline:(apos.endLine==cpos.line)=true:=by rfl)(hs:starEach [e] X.env=[(false,eval e X.env)]:=by rfl):PE X (.Call (.Attribute (.Name x npos) "update" apos) [e] [] cpos) (liftV K (uUpd i ue)):=by
 subst hK;refine(zfT PySem.F.plainAttrs_dict PySem.F.slot_dict_update PySem.F.type_dict_update zfU (zaM hN hv hd hcd) (zaf he pa_nil hs) hbase hfew hline hs rfl).mono fun σ H Q ⟨A,P,R,h,c⟩=>?_;unfold uUpd at h
 split at h
 ·rename_i a ys hx;obtain⟨v,ev,rfl,nb,vs,h1,h2⟩:=R.sl i _ hx;refine⟨_,ev,.inr (.inr (.inl ⟨rfl,.inl ⟨_,h1⟩⟩)),A,_,R,h,fun r A1 w H1 p R1 S1 rw'=>?_⟩;obtain⟨xs,zs,hA,rfl,few,p⟩:=p;obtain⟨_,_,_,_,us,g1,g2⟩:=R1.sl i _ hA
  cases rw' with
  |dic nN hD f2=>
   obtain⟨ws,od,f1,rfl⟩:=hD;have l1:=g2.len;have l2:=f2.len;rw[List.length_map] at l1 l2;obtain⟨R2,S2⟩:=R1.turnD hA (zeb f2 g2);exact⟨a,_,us,ws,rfl,rfl,fun z=>nN (.inr ⟨i,_,by rw[<- z];exact hA⟩),g1,.inr ⟨od,f1⟩,zbS (by omega),c _ _ _ _ p R2 (S1.trans S2) .non⟩
 ·exact h.elim
end
end L2
namespace L2
open PySem
section
variable {B:Addr->Prop}{rho:List (Option Sl)}{S:Option SSt}{A:AS}{i:Nat}{ue:UE}{QV:PV->AS->Prop}{QI:List PV->(AS->Prop)->AS->Prop}{kvs:List (PV×PV)}{xs:List PV}{z:PV}{m n:Int}
theorem zpZ:itK (.dic kvs) QI A=QI (kvs.map Prod.fst) (fun _=>True) A:=rfl
theorem zok:gMin (.int m) (.int n) z=(z=.int (if n<m then n else m)):=rfl
theorem zol:gMax (.int m) (.int n) z=(z=.int (if n > m then n else m)):=rfl
theorem zoj:gRep (.lst xs) (.int m) z=(-(2 ^ 63)<=m/\m<2 ^ 63/\xs.length*m.toNat<=1000000/\z=.lst (List.replicate m.toNat xs).flatten):=rfl
theorem zjn:gDictA (.dic kvs) z=(z=.dic kvs):=rfl
theorem ziw:uPopAt i ue ⟨B,rho,S⟩ QV=lstO rho[i]? (fun a _ A=>ue A fun r A1=>ex1 (fun xs=>A1.rho[i]?=some (some (.own a (.lst xs)))) (fun xs A=>∃ j y,r=.int (j:Nat)/\j<=1000000/\xs[j]?=some y/\QV y (put A i (.own a (.lst (xs.eraseIdx j))))) A1) ⟨B,rho,S⟩:=by
 unfold uPopAt lstO ex1;dsimp only;generalize rho[i]?=s;rcases s with _|_|s<;>first|rfl|(cases s<;>first|rfl|skip)
 rename_i c;cases c<;>first|rfl|skip
 refine congrArg (ue ⟨B,rho,S⟩) (funext fun r=>funext fun A1=>?_);exact propext ⟨fun⟨xs,j,y,h1,h2⟩=>⟨xs,h1,j,y,h2⟩,fun⟨xs,h1,j,y,h2⟩=>⟨xs,j,y,h1,h2⟩⟩
theorem zmr:uUpd i ue ⟨B,rho,S⟩ QV=dicO rho[i]? (fun a _ A=>ue A fun r A1=>ex1 (fun xs=>A1.rho[i]?=some (some (.own a (.dic xs)))) (fun xs A=>∃ ys,r=.dic ys/\xs.length+ys.length<=1000000/\QV .non (put A i (.own a (.dic (mergeP xs ys))))) A1) ⟨B,rho,S⟩:=by
 unfold uUpd dicO ex1;dsimp only;generalize rho[i]?=s;rcases s with _|_|s<;>first|rfl|(cases s<;>first|rfl|skip)
 rename_i c;cases c<;>first|rfl|skip
 refine congrArg (ue ⟨B,rho,S⟩) (funext fun r=>funext fun A1=>?_);exact propext ⟨fun⟨xs,ys,h1,h2⟩=>⟨xs,h1,ys,h2⟩,fun⟨xs,h1,ys,h2⟩=>⟨xs,ys,h1,h2⟩⟩
end
end L2
namespace L2
open PySem PySem.Spec PyProof.Rows
section
variable {X:Cx}{pins:List (Addr×Obj)}{σ:St}{H:Hp}{s:Shared}
end
end L2
namespace L2
open PySem PySem.Spec PyProof.Rows PySem.W
section
variable {prog:Program}{w:World}{A:Around}{E:Value->Shared->Prop}{s:Shared}{K:Frag}{x C:Addr}
end
section
variable {X:Cx}{pins:List (Addr×Obj)}{σ:St}{H:Hp}{s:Shared}
end
end L2
namespace L2
open PySem PySem.Spec PyProof.Rows
section
variable {X:Cx}
end
end L2
namespace L2
open PySem PySem.Spec PyProof.Rows PySem.W
section
variable {X:Cx}{pins:List (Addr×Obj)}{σ:St}{H:Hp}{s:Shared}
end
end L2
namespace L2
open PySem PySem.Spec PyProof.Rows PySem.W
section
variable {X:Cx}
end
end L2
namespace L2
open PySem PySem.Spec PyProof.Rows
section
variable {X:Cx}{K:Frag}{k:Nat}{x:Str}{p pos:Pos}{e:Expr}{es:List Expr}{ua:UA}{G:Rel}
end
section
variable {P:Program}{w:World}{K:Frag}{mg:Str->Option Value}{base:Heap}
end
end L2
namespace L2
open PySem
section
variable {X:Cx}{K:Frag}{a b:Expr}{ua ub:UE}{pos:Pos}{k:Nat}
end
section
variable {X:Cx}{K:Frag}{a b:Expr}{ua ub:UE}{pos:Pos}{k:Nat}
end
end L2
namespace L2
open PySem PySem.Spec PyProof.Rows
end L2
namespace L2
open PySem PySem.Spec PyProof.Rows
section
variable {prog:Program}{w:World}{A:Around}{E:Value->Shared->Prop}{s:Shared}{a:Addr}{vs:List (Key×Value)}{ep:Nat}
theorem zig {R:List Value->Shared->Prop}(hh:A.handled=none)(lo:(a==sysModules)=false)(T:s.heap.DictAt (mixKind prog w) a vs ep)(few:vs.length<=sizeLine)
  (h:∀ h' tk (us:List Value),(∀ b o,s.heap.get? b=some o->h'.get? b=some o)->s.heap.objs.size<h'.objs.size->us.length=vs.length->(∀(i:Nat)(v:Value),us[i]?=some v->∃ k x,vs[i]?=some (k,x)/\(mixKind prog w).is k v=true)->R us { s with heap:=h',toks:=tk }):wpAny (model prog w) A (collect (.ref a)) R E s:=by
 have lt:a<s.heap.objs.size:=T.lt_size;unfold collect;refine wpAny_bind (wpAny_runValue (codeAny_builtin PyProof.Rows.entry_proto_collect' ?_));rw[Around.under_plainId PySem.F.plain_proto_collect _];show wpAny _ A.in1 (newList [] >>= fun l=>again (.builtin "list.__iadd__" ⟨[l,.ref a],[]⟩)) _ _ s;refine wpAny_bind (wpAny_newObj_type ?_);refine wpAny_pure ⟨plainId_quiet PySem.F.plain_list_iadd _,codeAny_builtin PyProof.Rows.entry_list_iadd' ?_⟩;rw[Around.under_plainId PySem.F.plain_list_iadd _];have g0:(s.heap.push { cls:=.type "list",data:=.seq ([]:List Value).toArray }).get? s.heap.objs.size=some { cls:=.type "list",data:=.seq #[] }:=Heap.get?_push_size _ rfl;show wpAny _ A.in1 (Builtin.List.listExtendWith (.ref s.heap.objs.size) (.ref a) (.ref s.heap.objs.size)) _ _ _
 have key:=PySem.W.kdl_extend (A:=A) (s:={ s with heap:=s.heap.push { cls:=.type "list",data:=.seq ([]:List Value).toArray } })
  (R:=fun(q:Result)(s':Shared)=>∃(h':Heap)(tk:Nat)(us:Array Value)(c':Nat),q=.ok (.ret (.ref s.heap.objs.size))/\s'={ s with heap:=h',toks:=tk } /\
   (∀ b o,s.heap.get? b=some o->h'.get? b=some o)/\h'.get? s.heap.objs.size=some { cls:=.type "list",dict:=none,data:=.seq us c',slots:=#[] }/\ItemsOf (fun i v=>∃ k x,vs[i]?=some (k,x)/\(mixKind prog w).is k v=true) us vs.length)
  (PySem.W.kdl_dict (knd:=mixKind prog w) (kvs:=vs) (ep:=ep) lo) hh (T.at' fun o e=>Heap.get?_push_of_some _ e) s.heap.objs.size (Nat.ne_of_gt lt) (Nat.ne_of_gt lt) (.ref s.heap.objs.size) 0 g0
  (fun h' tk us c' k hS' it=>⟨h',tk,us,c',rfl,rfl,fun b o e=>k b o (Nat.ne_of_lt (Heap.lt_size e)) (Heap.get?_push_of_some _ e),hS',it⟩) few
 refine wpAny_mono key (fun f s' x=>?_) fun e s' x=>?_
 ·cases f with
  |done f=>
   obtain⟨h',tk,us,c',e,rfl,k,hS',it⟩:=x;cases e;show wpAny _ A (load s.heap.objs.size >>= _) _ _ _;refine wpAny_bind (wpAny_load hS' ?_);have q:=h h' tk us.toList k (Heap.lt_size hS') (by rw[Array.length_toList];exact it.1) fun i v e=>it.2 i v (by rw[<- Array.getElem?_toList];exact e);exact wpAny_pure q
  |again c₁=>
   refine⟨x.1,codeAny_mono x.2 fun q s₂ y=>?_⟩;obtain⟨h',tk,us,c',rfl,rfl,k,hS',it⟩:=y;show wpAny _ A (load s.heap.objs.size >>= _) _ _ _;refine wpAny_bind (wpAny_load hS' ?_);have q:=h h' tk us.toList k (Heap.lt_size hS') (by rw[Array.length_toList];exact it.1) fun i v e=>it.2 i v (by rw[<- Array.getElem?_toList];exact e);exact wpAny_pure q
 ·obtain⟨_,_,_,_,e',_⟩:=x;cases e'
end
section
variable {X:Cx}
theorem zhy:∀{kvs:List (Key×V)}{vs:List (Key×Value)}{us:List Value}{zs:List Str},KV kvs vs->kvs.map Prod.fst=zs.map Sum.inr->us.length=vs.length->(∀(i:Nat)(v:Value),us[i]?=some v->∃ k x,vs[i]?=some (k,x)/\keyIs k v=true)->StrsAre us zs:=by
 intro kvs vs us zs r;unfold KV at r
 induction r generalizing us zs with
 |nil=>
  intro hz hl _
  cases zs with
  |nil=>cases us with|nil=>exact .nil|cons _ _=>simp at hl
  |cons _ _=>simp at hz
 |@cons p q xs ys h1 h2 ih=>
  intro hz hl hv
  cases zs with
  |nil=>simp at hz
  |cons z zs=>
   cases us with
   |nil=>simp at hl
   |cons u us=>
    simp only[List.map_cons,List.cons.injEq] at hz;obtain⟨k,x,e,hk⟩:=hv 0 u rfl;simp only[List.getElem?_cons_zero,Option.some.injEq] at e;have e1:q.1=k:=by rw[e]
    have hk':keyIs (.inr z) u=true:=by rw[<- hz.1,h1.1,e1];exact hk
    rcases zap hk' with ⟨i,t,e',_⟩|⟨y,t,e',rfl⟩
    ·cases e'
    ·cases e';exact .cons z t (ih hz.2 (by simpa using hl) fun i v e=>by simpa using hv (i+1) v (by simpa using e))
theorem zcB (hc:X.calm=true):CallR X (.builtin "sorted") (fun xs H Q=>∃ p kvs zs,xs=[.ref p]/\Rd H p (.dK kvs)/\kvs.map Prod.fst=zs.map Sum.inr/\zs.length<64/\∀ l ss,H l=none->Srt zs ss->Q (.ref l) (upd H l (.lst (ss.map V.str)))):=by
 intro pins s σ H xs us Q I r h;obtain⟨p,kvs,zs,rfl,hp,hk,hz,q⟩:=h;obtain⟨u,rfl,ru⟩:=zbk r;cases ru;obtain⟨z,n,kws,rk,od,es,ep,T⟩:=hp.ok I.hok;have T:s.heap.DictAt (mixKind X.prog X.w) p kws ep:=⟨od,es,T⟩
 have l0:kws.length=zs.length:=by
  have l1:=rk.length;have l2:=congrArg List.length hk;simp only[List.length_map] at l2;omega
 refine Calls.call_function_entry kind_sorted plain_sorted entry_sorted (args_sorted1 _) ?_;unfold Builtin.«sorted»;refine wpAny_bind (m:=checkCount "sorted" 1 1 _) (wpAny_pure ?_);refine wpAny_bind (zig (A:=X.A.in1) (I.ok.hd hc) n T (Nat.le_of_lt (zas (by omega))) fun h' tk vs k lt hl hv=>?_);have hS:StrsAre vs zs:=zhy rk hk hl hv;have len:vs.length<64:=by omega
 refine wpAny_bind (wpAny_newList ?_ (Nat.le_of_lt (zas (by omega))));have oL:(h'.push { cls:=.type "list",data:=.seq vs.toArray }).get? h'.objs.size=some (seqObj "list" vs.toArray 0):=Heap.get?_push_size _ rfl;refine wpAny_bind (wpAny_holding (wpAny_call_entry slot_list_sort ⟨_,oL,rfl⟩ entry_list_sort (list_sort_treeK strKind_oneLt oL hS.keysOf (fun v₁ v₂ rest e=>keyKind_strs (by rw[<- e];exact hS)) len fun st' a1 a2=>⟨_,rfl,?_⟩) (args_list_sort _)));obtain⟨ss,b1,b2,b3⟩:=sorted_out_str hS a1 a2;obtain⟨ex,he⟩:=sortedHeap_at (out:=(arrOf st').map (·.2)) oL
 have kp:∀ b o,s.heap.get? b=some o->(sortedHeap (h'.push { cls:=.type "list",data:=.seq vs.toArray }) h'.objs.size vs ((arrOf st').map (·.2))).get? b=some o:=fun b o e=>by
  have e1:=k b o e;have l1:=Heap.lt_size e1;rw[sortedHeap_old (Nat.ne_of_lt l1) (by rw[size_push'];exact Nat.lt_succ_of_lt l1)];exact Heap.get?_push_of_some _ e1
 have le:s.heap.objs.size<=h'.objs.size:=Nat.le_of_lt lt
 have I1:=I.laid (a:=h'.objs.size) (o:=.lst (ss.map V.str)) (t':=tk) kp le ⟨by rw[List.length_map,b2.length_eq];exact Nat.le_of_lt (zas (by omega)),((arrOf st').map (·.2)).toList,ex,zcD b1,by
  rw[Array.toArray_toList]
  exact he⟩
 exact wpAny_pure ⟨_,rfl,.ref h'.objs.size,_,I1,rfl,q _ ss (I.hok.fresh le) ⟨b2,zbY b3⟩⟩
end
end L2
namespace L2
open PySem PySem.Spec PyProof.Rows
def gSortD:G1
 |.dic kvs,z=>∃ zs,kvs.map Prod.fst=zs.map PV.str/\zs.length<64/\z=.lst ((sortS zs).map PV.str)
 |_,_=>False
theorem zjm {kvs:List (PV×PV)}{z:PV}:gSortD (.dic kvs) z=(∃ zs,kvs.map Prod.fst=zs.map PV.str/\zs.length<64/\z=.lst ((sortS zs).map PV.str)):=rfl
section
variable {X:Cx}{K:Frag}{e:Expr}{ue:UE}{p pos:Pos}
theorem zfu {N:Addr->Prop}{H:Hp}:∀{kvs:List (PV×PV)}{kws:List (Key×V)}{zs:List Str},RKs K N H kvs (kws.map kpair)->kvs.map Prod.fst=zs.map PV.str->kws.map Prod.fst=zs.map Sum.inr
 |[],[],[],_,_=>rfl
 |[],[],_::_,_,h=>by simp at h
 |[],_::_,_,h,_=>nomatch h
 |_::_,[],_,h,_=>nomatch h
 |_::_,_::_,[],_,h=>by simp at h
 |(p,x)::kvs,kw::kws,z::zs,h,g=>by
  cases h with
  |cons r1 r2 r3=>
   have e:=ziJ r1;simp only[List.map_cons,List.cons.injEq] at g ⊢;have g1:p=.str z:=g.1;subst g1;refine⟨?_,zfu r3 g.2⟩;simpa [pk] using e.symm
theorem zcg (hK:X.K=K)(hc:X.calm=true)(hm:X.mg "sorted"=none)(he:PE X e (liftQ K ue))(hg:Gl X "sorted":=by rfl)(hs:starEach [e] X.env=[(false,eval e X.env)]:=by rfl):PE X (.Call (.Name "sorted" p) [e] [] pos) (liftF K (u1 gSortD ue)):=by
 subst hK;refine zoQ (zcB hc) ?_ PyProof.Rows.boot_sorted hm he hg (hs:=hs);intro H A σ x v z Q R q1 g c;cases x<;>first|exact g.elim|skip
 obtain⟨zs,hz,few,rfl⟩:=g;obtain⟨a,kws,rfl,h1,h2⟩:=q1.dic R;refine⟨a,kws,zs,rfl,h1,zfu h2 hz,few,fun l ss hl srt=>?_⟩;cases srt.eq;exact c _ _ ⟨l,.lst _,rfl,rfl,hl,zal hl _,_,zab,zgI _⟩
end
end L2
namespace L2
open PySem PySem.Spec PyProof.Rows
section
variable {X:Cx}{pins:List (Addr×Obj)}{σ:St}{H:Hp}{s:Shared}{N:Addr->Prop}
end
section
variable {X:Cx}{K:Frag}{a b:Expr}{ua ub:UE}{pos:Pos}{k:Nat}
end
end L2
namespace L2
open PySem PySem.Spec PyProof.Rows
section
variable {X:Cx}{K:Frag}{pos kpos npos:Pos}{j:Nat}
end
end L2
namespace L2
open PySem PySem.Spec PyProof.Rows
end L2
namespace L2
open PySem PySem.Spec PyProof.Rows
section
variable {X:Cx}{K:Frag}{a b:Expr}{ua ub:UE}{pos:Pos}{r:R2}{G:G2}{k:Nat}
end
end L2
namespace ST
open PySem PySem.SetTable
def Rs (xs:Array Nat):Prop:=∀ i k (hk:k<xs.size)(h:i<k),xs[i]'(Nat.lt_trans h hk)<xs[k]
def Cut (xs:Array Nat)(j p:Nat):Prop:=p<=xs.size/\(∀ i (h:i<xs.size),i<p->xs[i]<j)/\∀ i (h:i<xs.size),p<=i->j<=xs[i]
theorem zhG {xs:Array Nat}{j:Nat}(rs:Rs xs):∀(f lo hi:Nat),lo<=hi->hi<=xs.size->hi-lo<=f->(∀ i (h:i<xs.size),i<lo->xs[i]<j)->(∀ i (h:i<xs.size),hi<=i->j<=xs[i])->Cut xs j (below.go xs j f lo hi)
 |0,lo,hi,h1,h2,h3,h4,h5=>by
  have e:lo=hi:=by omega
  subst e;exact⟨h2,h4,h5⟩
 |f+1,lo,hi,h1,h2,h3,h4,h5=>by
  unfold below.go
  split
  ·rename_i hlt;have hm:(lo+hi) / 2<xs.size:=by omega
   have e:xs.getD ((lo+hi) / 2) j=xs[(lo+hi) / 2]:=by simp [Array.getD,hm]
   dsimp only;rw[e]
   split
   ·rename_i hc;refine zhG rs f _ hi (by omega) h2 (by omega) (fun i h hi'=>?_) h5;by_cases z:i=(lo+hi) / 2
    ·subst z;exact hc
    ·exact Nat.lt_trans (rs i _ hm (by omega)) hc
   ·rename_i hc;refine zhG rs f lo _ (by omega) (by omega) (by omega) h4 (fun i h hi'=>?_);by_cases z:i=(lo+hi) / 2
    ·subst z;omega
    ·have:=rs _ i h (show(lo+hi) / 2<i by omega);omega
  ·have e:lo=hi:=by omega
   subst e;exact⟨h2,h4,h5⟩
theorem zdj {xs:Array Nat}{j:Nat}(rs:Rs xs):Cut xs j (below xs j):=zhG rs _ _ _ (by omega) (Nat.le_refl _) (by omega) (fun i h z=>by omega) fun i h z=>by omega
theorem zjH {xs:Array Nat}{i j:Nat}(rs:Rs xs)(h:xs[i]?=some j):below xs j=i:=by
 obtain⟨hi,e⟩:=Array.getElem?_eq_some_iff.mp h;obtain⟨c1,c2,c3⟩:=zdj (j:=j) rs;rcases Nat.lt_trichotomy (below xs j) i with z|z|z
 ·have h1:=c3 (below xs j) (by omega) (Nat.le_refl _);have h2:=rs _ i hi z;omega
 ·exact z
 ·have:=c2 i hi z;omega
structure Ok (t:SetTable):Prop where
 rs:Rs t.place
 dm:t.dummies=#[]
 le:∀ j∈t.place.toList,j<=t.mask
 few:t.place.size<=t.mask
theorem zbP {t:SetTable}(k:Ok t){i j:Nat}(h:t.place[i]?=some j):t.slot j=.live i:=by
 unfold slot;rw[zjH k.rs h];simp [h]
theorem zfR {t:SetTable}(k:Ok t){j:Nat}(h:j∉t.place.toList):t.slot j=.empty:=by
 unfold slot
 have e:(t.place[below t.place j]?==some j)=false:=by
  rw[beq_eq_false_iff_ne];intro z;exact h (Array.mem_toList_iff.mpr (Array.mem_of_getElem? z))
 have d:has t.dummies j=false:=by
  rw[k.dm];simp [has]
 simp [e,d]
def Con (t:SetTable)(es:Array (Int×Value)):List (Nat×(Int×Value)):=t.place.toList.zip es.toList
theorem con_at {t:SetTable}{es:Array (Int×Value)}{j:Nat}{e:Int×Value}:(j,e)∈Con t es↔∃ i:Nat,t.place[i]?=some j/\es[i]?=some e:=by
 unfold Con;rw[List.mem_iff_getElem?];constructor
 ·rintro⟨i,h⟩;rw[List.getElem?_zip_eq_some] at h;exact⟨i,by simpa using h.1,by simpa using h.2⟩
 ·rintro⟨i,h1,h2⟩;exact⟨i,by rw[List.getElem?_zip_eq_some];exact⟨by simpa using h1,by simpa using h2⟩⟩
def stp (m:Nat)(p:Probe):Probe:=if p.more > 0 then { p with j:=p.j+1,more:=p.more-1 } else { p with j:=(leap m p.i p.perturb).1,more:=runEnd m (leap m p.i p.perturb).1-(leap m p.i p.perturb).1,i:=(leap m p.i p.perturb).1,perturb:=(leap m p.i p.perturb).2 }
theorem zkv (t:SetTable)(p:Probe):t.advance p=stp t.mask p:=by
 unfold advance stp
 split<;>rfl
def pth (m:Nat)(p:Probe):Nat->Probe
 |0=>p
 |n+1=>stp m (pth m p n)
theorem zcb (m:Nat)(p:Probe)(a b:Nat):pth m p (a+b)=pth m (pth m p a) b:=by
 induction b with
 |zero=>rfl
 |succ b ih=>show stp m (pth m p (a+b))=_;rw[ih];rfl
def rst (m i q:Nat):Probe:={ j:=i,more:=runEnd m i-i,i,perturb:=q,dummy:=none }
theorem zjT {m:Nat}{p:Probe}{k:Nat}(h:k<=p.more):pth m p k={ p with j:=p.j+k,more:=p.more-k }:=by
 induction k with
 |zero=>rfl
 |succ k ih=>
  show stp m (pth m p k)=_;rw[ih (by omega)];unfold stp;rw[if_pos (show p.more-k > 0 by omega)];simp only[Probe.mk.injEq,and_true,true_and];omega
theorem zgK (m i:Nat):runEnd m i-i<=9:=by unfold runEnd;split<;>omega
theorem zgJ (m:Nat)(p:Probe)(hd:p.dummy=none):pth m p (p.more+1)=rst m (leap m p.i p.perturb).1 (leap m p.i p.perturb).2:=by
 show stp m (pth m p p.more)=_;rw[zjT (Nat.le_refl _)];unfold stp;rw[if_neg (by show ¬ p.more-p.more > 0;omega)];unfold rst;simp only[hd]
def lps (m i q:Nat):Nat->Nat×Nat
 |0=>(i,q)
 |n+1=>leap m (lps m i q n).1 (lps m i q n).2
theorem zjP (m i q:Nat):∀ n,∃ k,k<=10*n/\pth m (rst m i q) k=rst m (lps m i q n).1 (lps m i q n).2
 |0=>⟨0,by omega,rfl⟩
 |n+1=>by
  obtain⟨k,hk,e⟩:=zjP m i q n;refine⟨k+((rst m (lps m i q n).1 (lps m i q n).2).more+1),?_,?_⟩
  ·have:=zgK m (lps m i q n).1;show k+(runEnd m (lps m i q n).1-(lps m i q n).1+1)<=_;omega
  ·rw[zcb,e,zgJ _ _ rfl];rfl
theorem znN (m i q:Nat):∀ n,(lps m i q n).2=q / 32 ^ n
 |0=>by simp [lps]
 |n+1=>by
  show(lps m i q n).2 / 32=_;rw[znN m i q n,Nat.div_div_eq_div_mul,Nat.pow_succ]
theorem zhr (m i q a b:Nat):lps m i q (a+b)=lps m (lps m i q a).1 (lps m i q a).2 b:=by
 induction b with
 |zero=>rfl
 |succ b ih=>show leap m (lps m i q (a+b)).1 (lps m i q (a+b)).2=_;rw[ih];rfl
def wk (m i:Nat):Nat->Nat
 |0=>i
 |n+1=>(wk m i n*5+1) % (m+1)
theorem znP (m i:Nat):∀ n,(lps m i 0 n)=(wk m i n,0)
 |0=>rfl
 |n+1=>by
  show leap _ _ _=_;rw[znP m i n];simp [leap,wk]
def all7:Bool:=(List.range 8).all fun i=>(List.range 8).all fun k=>(List.range 8).any fun n=>wk 7 i n==k
def zpp:Bool:=(List.range 32).all fun i=>(List.range 32).all fun k=>(List.range 32).any fun n=>wk 31 i n==k
theorem a7:all7=true:=by decide +kernel
theorem a31:zpp=true:=by decide +kernel
def Mk (m:Nat):Prop:=m=7\/m=31
theorem zmm {m i k:Nat}(hm:Mk m)(hi:i<=m)(hk:k<=m):∃ n,n<=m/\wk m i n=k:=by
 rcases hm with rfl|rfl
 ·have h:=a7;simp only[all7,List.all_eq_true,List.any_eq_true,List.mem_range,beq_iff_eq] at h;obtain⟨n,h1,h2⟩:=h i (by omega) k (by omega);exact⟨n,by omega,h2⟩
 ·have h:=a31;simp only[zpp,List.all_eq_true,List.any_eq_true,List.mem_range,beq_iff_eq] at h;obtain⟨n,h1,h2⟩:=h i (by omega) k (by omega);exact⟨n,by omega,h2⟩
theorem znO {m i q:Nat}(hi:i<=m):∀ n,(lps m i q n).1<=m
 |0=>hi
 |n+1=>by
  show(_ % (m+1))<=m;have:=Nat.mod_lt ((lps m i q n).1*5+1+(lps m i q n).2 / 32) (show 0<m+1 by omega);omega
theorem zhq {m i q k:Nat}(hm:Mk m)(hi:i<=m)(hq:q<2 ^ 65)(hk:k<=m):∃ n,n<=m+13/\(lps m i q n).1=k:=by
 have z:(lps m i q 13).2=0:=by
  rw[znN];exact Nat.div_eq_of_lt (Nat.lt_of_lt_of_le hq (by decide))
 obtain⟨n,h1,h2⟩:=zmm hm (znO (q:=q) hi 13) hk;refine⟨13+n,by omega,?_⟩;rw[zhr,z,znP];exact h2
structure Std (m:Nat)(p:Probe):Prop where
 d:p.dummy=none
 i:p.i<=m
 q:p.perturb<2 ^ 64
 mo:p.more<=9
 j:p.j+p.more<=m
theorem zgL {m i q:Nat}(hi:i<=m)(hq:q<2 ^ 64):Std m (rst m i q):=by
 refine⟨rfl,hi,hq,zgK m i,?_⟩;show i+(runEnd m i-i)<=m;unfold runEnd
 split<;>omega
theorem zkP {m:Nat}{p:Probe}(h:Std m p):Std m (stp m p):=by
 unfold stp
 split
 ·rename_i hm;obtain⟨a,b,c,e,f⟩:=h;exact⟨a,b,c,by show p.more-1<=9;omega,by show p.j+1+(p.more-1)<=m;omega⟩
 ·have h1:(leap m p.i p.perturb).1<=m:=by
   show(_ % (m+1))<=m;have:=Nat.mod_lt (p.i*5+1+p.perturb / 32) (show 0<m+1 by omega);omega
  have h2:(leap m p.i p.perturb).2<2 ^ 64:=Nat.lt_of_le_of_lt (Nat.div_le_self ..) h.q;have:=zgL h1 h2;exact⟨h.d,this.i,this.q,this.mo,this.j⟩
theorem zeS {m:Nat}{p:Probe}(h:Std m p):∀ n,Std m (pth m p n)
 |0=>h
 |n+1=>zkP (zeS h n)
theorem zgR {m k:Nat}{p:Probe}(hm:Mk m)(h:Std m p)(hk:k<=m):∃ n,n<10*turns m/\(pth m p n).j=k:=by
 have e:=zgJ m p h.d
 have hi:(leap m p.i p.perturb).1<=m:=by
  show(_ % (m+1))<=m;have:=Nat.mod_lt (p.i*5+1+p.perturb / 32) (show 0<m+1 by omega);omega
 have hq:(leap m p.i p.perturb).2<2 ^ 65:=Nat.lt_of_le_of_lt (Nat.div_le_self ..) (Nat.lt_trans h.q (by decide));obtain⟨n,h1,h2⟩:=zhq hm hi hq hk;obtain⟨c,h3,h4⟩:=zjP m (leap m p.i p.perturb).1 (leap m p.i p.perturb).2 n;refine⟨p.more+1+c,?_,?_⟩
 ·have:=h.mo;unfold turns;omega
 ·rw[zcb,e,h4];exact h2
abbrev way (m:Nat)(h:Int)(n:Nat):Nat:=(pth m (rst m (bits h % (m+1)) (bits h)) n).j
theorem zin (h:Int):bits h<2 ^ 64:=by unfold bits;omega
theorem zcN (m:Nat)(h:Int):Std m (rst m (bits h % (m+1)) (bits h)):=zgL (by have:=Nat.mod_lt (bits h) (show 0<m+1 by omega);omega) (zin h)
theorem zeu {t:SetTable}(k:Ok t):∃ j,j<=t.mask/\j∉t.place.toList:=by
 refine Classical.byContradiction fun n=>?_;have all:∀ j,j∈List.range (t.mask+1)->j∈t.place.toList:=fun j hj=>Classical.byContradiction fun z=>n ⟨j,by have:=List.mem_range.mp hj;omega,z⟩;have h:=(List.nodup_range (n:=t.mask+1)).length_le_of_subset all;rw[List.length_range,Array.length_toList] at h;have:=k.few;omega
theorem zkk {t:SetTable}(k:Ok t)(ha:Nat->Int)(h:Int):∀(f:Nat)(p:Probe),(∃ n,n<f/\(pth t.mask p n).j∉t.place.toList)->p.dummy=none ->
  ∃ n,(∀ c,c<n->∃ i,t.place[i]?=some (pth t.mask p c).j/\ha i≠h) /\
   ((probe.go t ha h f p=some (.empty (pth t.mask p n).j none)/\(pth t.mask p n).j∉t.place.toList)\/∃ i,probe.go t ha h f p=some (.candidate (pth t.mask p n).j i (pth t.mask p (n+1)))/\t.place[i]?=some (pth t.mask p n).j/\ha i=h)
 |0,p,⟨n,h1,_⟩,_=>by omega
 |f+1,p,⟨n,h1,h2⟩,hd=>by
  unfold probe.go;by_cases hj:p.j∈t.place.toList
  ·obtain⟨i,hi⟩:=List.getElem?_of_mem hj;rw[Array.getElem?_toList] at hi;rw[zbP k hi];dsimp only;by_cases he:ha i=h
   ·refine⟨0,fun c z=>by omega,.inr ⟨i,?_,hi,he⟩⟩;rw[if_pos (by simpa using he),zkv];rfl
   ·rw[if_neg (by simpa using he),zkv];have hn:n≠0:=fun z=>by subst z;exact h2 hj
    obtain⟨n',rfl⟩:∃ n',n=n'+1:=⟨n-1,by omega⟩
    have sh:∀ c,pth t.mask (stp t.mask p) c=pth t.mask p (c+1):=fun c=>by
     rw[Nat.add_comm,zcb];rfl
    obtain⟨m,g1,g2⟩:=zkk k ha h f (stp t.mask p) ⟨n',by omega,by rw[sh];exact h2⟩ (by unfold stp;split<;>exact hd);refine⟨m+1,fun c hc=>?_,?_⟩
    ·cases c with
     |zero=>exact⟨i,hi,he⟩
     |succ c=>rw[<- sh];exact g1 c (by omega)
    ·rw[sh,sh] at g2;exact g2
  ·rw[zfR k hj];exact⟨0,fun c z=>by omega,.inl ⟨by rw[<- hd];rfl,hj⟩⟩
theorem zgU {t:SetTable}(k:Ok t)(hm:Mk t.mask){p:Probe}(hp:Std t.mask p)(ha:Nat->Int)(h:Int) :
  ∃ n,(∀ c,c<n->∃ i,t.place[i]?=some (pth t.mask p c).j/\ha i≠h) /\
   ((t.probe ha h p=some (.empty (pth t.mask p n).j none)/\(pth t.mask p n).j∉t.place.toList)\/∃ i,t.probe ha h p=some (.candidate (pth t.mask p n).j i (pth t.mask p (n+1)))/\t.place[i]?=some (pth t.mask p n).j/\ha i=h):=by
 obtain⟨j,h1,h2⟩:=zeu k;obtain⟨n,h3,h4⟩:=zgR hm hp h1;exact zkk k ha h _ p ⟨n,h3,by rw[h4];exact h2⟩ hp.d
def Wb (t:SetTable)(es:Array (Int×Value)):Prop:=∀ j (e:Int×Value),(j,e)∈Con t es->∃ n,way t.mask e.1 n=j/\∀ c,c<n->way t.mask e.1 c∈t.place.toList
theorem zlx {α:Type}{xs:Array α}{p:Nat}{x y:α}:y∈(insertAt xs p x).toList↔y=x\/y∈xs.toList:=by
 have h:=(PySem.SetTable.insertAt_perm xs p x).mem_iff (a:=y);rw[h];simp [or_comm]
end ST
namespace ST
open PySem PySem.SetTable
theorem rs_iff {xs:Array Nat}:Rs xs↔xs.toList.Pairwise (·<·):=by
 rw[List.pairwise_iff_getElem];constructor
 ·intro h i j hi hj hij;rw[Array.length_toList] at hi hj;simpa using h i j hj hij
 ·intro h i k hk hik;have:=h i k (by rw[Array.length_toList];exact Nat.lt_trans hik hk) (by rw[Array.length_toList];exact hk) hik;rw[Array.getElem_toList,Array.getElem_toList] at this;exact this
theorem zec (t:SetTable)(k:Ok t)(j:Nat):(t.put j).1.place.toList=t.place.toList.take (below t.place j)++j::t.place.toList.drop (below t.place j)/\(t.put j).1.dummies=#[]/\(t.put j).1.mask=t.mask/\(t.put j).2=below t.place j:=by
 refine⟨?_,?_,rfl,rfl⟩
 ·show(insertAt t.place (below t.place j) j).toList=_;rw[toList_insertAt]
 ·show(if has t.dummies j then _ else t.dummies)=#[];rw[k.dm];simp [has]
theorem zng {t:SetTable}(k:Ok t){j:Nat}(hj:j<=t.mask)(nj:j∉t.place.toList)(few:t.place.size+1<=t.mask):Ok (t.put j).1:=by
 obtain⟨e1,e2,e3,_⟩:=zec t k j;obtain⟨c1,c2,c3⟩:=zdj (j:=j) k.rs;have pw:=rs_iff.mp k.rs
 have hb:∀ x∈t.place.toList.take (below t.place j),x<j:=fun x hx=>by
  obtain⟨i,hi,rfl⟩:=List.mem_iff_getElem.mp hx;rw[List.length_take,Array.length_toList] at hi;have:=c2 i (by omega) (by omega);simpa using this
 have ha:∀ x∈t.place.toList.drop (below t.place j),j<x:=fun x hx=>by
  obtain⟨i,hi,rfl⟩:=List.mem_iff_getElem.mp hx;rw[List.length_drop,Array.length_toList] at hi;have h1:=c3 (below t.place j+i) (by omega) (by omega);have h2:j≠t.place[below t.place j+i]'(by omega):=fun z=>nj (by rw[z];simp);have:(t.place.toList.drop (below t.place j))[i]'(by rw[List.length_drop,Array.length_toList];exact hi)=t.place[below t.place j+i]'(by omega):=by simp
  rw[this];omega
 refine⟨rs_iff.mpr ?_,e2,fun x hx=>?_,?_⟩
 ·rw[e1,List.pairwise_append,List.pairwise_cons];refine⟨pw.sublist (List.take_sublist ..),⟨ha,pw.sublist (List.drop_sublist ..)⟩,fun x hx y hy=>?_⟩;rcases List.mem_cons.mp hy with rfl|hy
  ·exact hb x hx
  ·exact Nat.lt_trans (hb x hx) (ha y hy)
 ·rw[e1] at hx;rw[e3];simp only[List.mem_append,List.mem_cons] at hx;rcases hx with h|rfl|h
  ·exact k.le x (List.mem_of_mem_take h)
  ·exact hj
  ·exact k.le x (List.mem_of_mem_drop h)
 ·rw[e3,<- Array.length_toList,e1];simp;omega
theorem zkU {t:SetTable}(k:Ok t){es:Array (Int×Value)}(hs:t.place.size=es.size)(j:Nat)(e:Int×Value){j':Nat}{e':Int×Value} :
  (j',e')∈Con (t.put j).1 (insertAt es (t.put j).2 e)↔(j'=j/\e'=e)\/(j',e')∈Con t es:=by
 obtain⟨e1,_,_,e4⟩:=zec t k j;obtain⟨c1,_⟩:=zdj (j:=j) k.rs;unfold Con;rw[e1,e4,toList_insertAt];have l1:(t.place.toList.take (below t.place j)).length=(es.toList.take (below t.place j)).length:=by simp;omega
 rw[show es.toList.take (below t.place j)++(e::es.toList.drop (below t.place j))=es.toList.take (below t.place j)++(e::es.toList.drop (below t.place j)) from rfl];rw[List.zip_append l1,List.zip_cons_cons,List.mem_append,List.mem_cons,Prod.mk.injEq]
 have z:t.place.toList.zip es.toList=(t.place.toList.take (below t.place j)).zip (es.toList.take (below t.place j))++(t.place.toList.drop (below t.place j)).zip (es.toList.drop (below t.place j)):=by
  rw[<- List.zip_append l1,List.take_append_drop,List.take_append_drop]
 rw[z,List.mem_append];constructor
 ·rintro(h|h|h)
  ·exact .inr (.inl h)
  ·exact .inl h
  ·exact .inr (.inr h)
 ·rintro(h|h|h)
  ·exact .inr (.inl h)
  ·exact .inl h
  ·exact .inr (.inr h)
theorem zjX {t:SetTable}(k:Ok t){j x:Nat}:x∈(t.put j).1.place.toList↔x=j\/x∈t.place.toList:=by
 show x∈(insertAt t.place (below t.place j) j).toList↔_;exact zlx
theorem znf {t:SetTable}(k:Ok t){es:Array (Int×Value)}(hs:t.place.size=es.size)(w:Wb t es){j n:Nat}{e:Int×Value}(hw:way t.mask e.1 n=j)(hb:∀ c,c<n->way t.mask e.1 c∈t.place.toList):Wb (t.put j).1 (insertAt es (t.put j).2 e):=by
 intro j' e' h;have em:(t.put j).1.mask=t.mask:=rfl;rcases (zkU k hs j e).mp h with ⟨rfl,rfl⟩|h
 ·exact⟨n,hw,fun c hc=>(zjX k).mpr (.inr (hb c hc))⟩
 ·obtain⟨n',h1,h2⟩:=w j' e' h;exact⟨n',h1,fun c hc=>(zjX k).mpr (.inr (h2 c hc))⟩
def own (o:Array (Option Nat))(j:Nat):Prop:=∃ k,o[j]?=some (some k)
theorem zfC {m:Nat}(o:Array (Option Nat))(ho:o.size=m+1):∀(f i q:Nat),i<=m->(∃ n,n<f/\o[(lps m i q n).1]?=some none) ->
  ∃ j N,layClean.free m o f i q=some j/\(pth m (rst m i q) N).j=j/\o[j]?=some none/\∀ c,c<N->own o (pth m (rst m i q) c).j
 |0,i,q,hi,⟨n,h,_⟩=>by omega
 |f+1,i,q,hi,⟨n,h1,h2⟩=>by
  have ml:runEnd m i+1-i=runEnd m i-i+1:=by unfold runEnd;split<;>omega
  have mle:i+(runEnd m i-i)<=m:=by unfold runEnd;split<;>omega
  have atk:∀ k,k<runEnd m i+1-i->(pth m (rst m i q) k).j=i+k/\∃ x,o[i+k]?=some x/\o.getD (i+k) (some 0)=x:=fun k hk=>by
   rw[zjT (show k<=(rst m i q).more from by show k<=runEnd m i-i;omega)];have hlt:i+k<o.size:=by omega
   exact⟨rfl,o[i+k],by simp [hlt],by simp [Array.getD,hlt]⟩
  unfold layClean.free
  cases hf:(List.range (runEnd m i+1-i)).find? fun k=>(o.getD (i+k) (some 0)).isNone with
  |some k=>
   obtain⟨h3,l,as,h4,h5⟩:=List.find?_eq_some_iff_append.mp hf;have hk:k<runEnd m i+1-i:=List.mem_range.mp (by rw[h4];simp);obtain⟨a1,x,a2,a3⟩:=atk k hk;refine⟨i+k,k,rfl,a1,?_,fun c hc=>?_⟩
   ·rw[a3] at h3;rw[a2]
    cases x with
    |none=>rfl
    |some _=>cases h3
   ·obtain⟨b1,y,b2,b3⟩:=atk c (by omega)
    have hc':c∈l:=by
     have e:(List.range (runEnd m i+1-i))[c]?=some c:=by rw[List.getElem?_range (by omega)]
     have ek:l.length=k:=by
      have e2:(List.range (runEnd m i+1-i))[l.length]?=some k:=by rw[h4];simp
      rw[List.getElem?_range] at e2
      ·exact Option.some.inj e2
      ·have:=congrArg List.length h4;simp at this;omega
     rw[h4,List.getElem?_append_left (by omega)] at e;exact List.mem_of_getElem? e
    have:=h5 c hc';rw[b3] at this;rw[b1]
    cases y with
    |none=>simp at this
    |some z=>exact⟨z,b2⟩
  |none=>
   dsimp only;have no:=List.find?_eq_none.mp hf
   have full:∀ c,c<runEnd m i+1-i->own o (pth m (rst m i q) c).j:=fun c hc=>by
    obtain⟨b1,y,b2,b3⟩:=atk c hc;have:=no c (List.mem_range.mpr hc);rw[b3] at this;rw[b1]
    cases y with
    |none=>simp at this
    |some z=>exact⟨z,b2⟩
   have hn:n≠0:=fun z=>by
    subst z;obtain⟨k,e⟩:=full 0 (by omega);have e':o[i]?=some (some k):=e;have h2':o[i]?=some none:=h2;rw[e'] at h2';cases h2'
   obtain⟨n',rfl⟩:∃ n',n=n'+1:=⟨n-1,by omega⟩
   have hl:(leap m i q).1<=m:=by
    show(_ % (m+1))<=m;have:=Nat.mod_lt (i*5+1+q / 32) (show 0<m+1 by omega);omega
   have sh:∀ c,lps m i q (c+1)=lps m (leap m i q).1 (leap m i q).2 c:=fun c=>by rw[Nat.add_comm,zhr];rfl
   obtain⟨j,N,g1,g2,g3,g4⟩:=zfC o ho f (leap m i q).1 (leap m i q).2 hl ⟨n',by omega,by rw[<- sh];exact h2⟩;have e:=zgJ m (rst m i q) rfl;have em:(rst m i q).more+1=runEnd m i+1-i:=by show runEnd m i-i+1=_;omega
   refine⟨j,(rst m i q).more+1+N,g1,?_,g3,fun c hc=>?_⟩
   ·rw[zcb,e];exact g2
   ·by_cases z:c<runEnd m i+1-i
    ·exact full c z
    ·obtain⟨c',rfl⟩:∃ c',c=(rst m i q).more+1+c':=⟨c-((rst m i q).more+1),by omega⟩;rw[zcb,e];exact g4 c' (by omega)
structure Ly (m:Nat)(hs:List Int)(o:Array (Option Nat))(S:List (Nat×Nat)):Prop where
 sz:o.size=m+1
 mem:∀(j k:Nat),o[j]?=some (some k)↔(j,k)∈S
 nd:(S.map Prod.fst).Nodup
 ix:S.map Prod.snd=List.range hs.length
 wy:∀(j k:Nat),(j,k)∈S->∃ h,hs[k]?=some h/\∃ n,way m h n=j/\∀ c,c<n->own o (way m h c)
theorem Ly.len {m:Nat}{hs:List Int}{o:Array (Option Nat)}{S:List (Nat×Nat)}(l:Ly m hs o S):S.length=hs.length:=by
 have:=congrArg List.length l.ix;simpa using this
theorem znL (m:Nat):Ly m [] (Array.replicate (m+1) none) []:=by
 refine⟨by simp,fun j k=>?_,by simp,rfl,fun j k h=>by cases h⟩;simp [Array.getElem?_replicate]
theorem zll {m:Nat}{hs:List Int}{o:Array (Option Nat)}{S:List (Nat×Nat)}(l:Ly m hs o S)(hl:hs.length<=m):∃ j,j<=m/\o[j]?=some none:=by
 refine Classical.byContradiction fun n=>?_
 have all:∀ j,j∈List.range (m+1)->j∈S.map Prod.fst:=fun j hj=>by
  have hj':=List.mem_range.mp hj;have e:o[j]?=some (o[j]'(by rw[l.sz];exact hj')):=by simp
  cases z:o[j]'(by rw[l.sz];exact hj') with
  |none=>rw[z] at e;exact absurd ⟨j,by omega,e⟩ n
  |some k=>rw[z] at e;exact List.mem_map.mpr ⟨(j,k),(l.mem j k).mp e,rfl⟩
 have h:=(List.nodup_range (n:=m+1)).length_le_of_subset all;rw[List.length_range,List.length_map,l.len] at h;omega
theorem zlk {m:Nat}(hm:Mk m){hs:List Int}{o:Array (Option Nat)}{S:List (Nat×Nat)}(l:Ly m hs o S)(hl:hs.length<=m)(h:Int) :
  ∃ j,layClean.free m o (turns m) (bits h % (m+1)) (bits h)=some j/\Ly m (hs++[h]) (o.setIfInBounds j (some hs.length)) (S++[(j,hs.length)]):=by
 have hi:bits h % (m+1)<=m:=by have:=Nat.mod_lt (bits h) (show 0<m+1 by omega);omega
 obtain⟨k0,h1,h2⟩:=zll l hl;obtain⟨n,h3,h4⟩:=zhq hm hi (Nat.lt_trans (zin h) (by decide)) h1;obtain⟨j,N,g1,g2,g3,g4⟩:=zfC o l.sz (turns m) _ (bits h) hi ⟨n,by unfold turns;omega,by rw[h4];exact h2⟩;have hj:j<o.size:=(Array.getElem?_eq_some_iff.mp g3).1
 have get:∀ x,(o.setIfInBounds j (some hs.length))[x]?=if x=j then some (some hs.length) else o[x]?:=fun x=>by
  rw[Array.getElem?_setIfInBounds];by_cases e:j=x
  ·subst e;simp [hj]
  ·rw[if_neg e,if_neg (Ne.symm e)]
 have keep:∀ x,own o x->own (o.setIfInBounds j (some hs.length)) x:=fun x ⟨k,e⟩=>by
  refine⟨k,?_⟩;rw[get,if_neg]
  ·exact e
  ·rintro rfl;rw[e] at g3;cases g3
 refine⟨j,g1,by simp [l.sz],fun x k=>?_,?_,?_,fun x k hx=>?_⟩
 ·rw[get,List.mem_append,List.mem_singleton,Prod.mk.injEq,<- l.mem];by_cases e:x=j
  ·subst e;rw[if_pos rfl,g3];simp [eq_comm]
  ·simp [e]
 ·rw[List.map_append,List.nodup_append];refine⟨l.nd,by simp,fun a ha b hb=>?_⟩;simp at hb;subst hb;rintro rfl;obtain⟨⟨x,k⟩,hx,rfl⟩:=List.mem_map.mp ha;have:=(l.mem x k).mpr hx;have g3':o[x]?=some none:=g3;rw[this] at g3';cases g3'
 ·rw[List.map_append,l.ix,List.length_append];simp [List.range_succ]
 ·rcases List.mem_append.mp hx with hx|hx
  ·obtain⟨h',e1,n',e2,e3⟩:=l.wy x k hx;exact⟨h',by rw[List.getElem?_append_left (List.getElem?_eq_some_iff.mp e1).1];exact e1,n',e2,fun c hc=>keep _ (e3 c hc)⟩
  ·rw[List.mem_singleton,Prod.mk.injEq] at hx;obtain⟨rfl,rfl⟩:=hx;exact⟨h,by simp,N,g2,fun c hc=>keep _ (g4 c hc)⟩
theorem zhp {m:Nat}(hm:Mk m):∀(rest done:List Int)(o:Array (Option Nat))(S:List (Nat×Nat)),Ly m done o S->done.length+rest.length<=m ->
  ∃ o' S',rest.foldl (fun acc h=>do
   let (owner,k) <- acc
   let j <- layClean.free m owner (turns m) (bits h % (m+1)) (bits h)
   pure (owner.setIfInBounds j (some k),k+1)) (some (o,done.length))=some (o',done.length+rest.length)/\Ly m (done++rest) o' S'
 |[],done,o,S,l,hl=>⟨o,S,by simp,by simpa using l⟩
 |h::rest,done,o,S,l,hl=>by
  rw[List.length_cons] at hl;obtain⟨j,h1,l1⟩:=zlk hm l (by omega) h;obtain⟨o',S',h2,l2⟩:=zhp hm rest (done++[h]) _ _ l1 (by simp;omega);refine⟨o',S',?_,by simpa using l2⟩;rw[List.foldl_cons];simp only[bind,Option.bind,h1];rw[List.length_append] at h2;simp only[bind,Option.bind,List.length_singleton] at h2;rw[List.length_cons,show done.length+(rest.length+1)=done.length+1+rest.length by omega];exact h2
theorem znQ {m:Nat}(hm:Mk m)(hs:Array Int)(hl:hs.size<=m):∃ o S,layClean m hs=some o/\Ly m hs.toList o S:=by
 obtain⟨o,S,h1,l⟩:=zhp hm hs.toList [] _ [] (znL m) (by simpa using hl);refine⟨o,S,?_,by simpa using l⟩;unfold layClean;rw[<- Array.foldl_toList];have h1':=h1;simp only[List.length_nil] at h1';rw[h1'];rfl
end ST
namespace ST
open PySem PySem.SetTable
theorem zjK {α β:Type}{f:Nat×α->Option β}:∀{l:List (Nat×α)},(∀ q∈l,∃ e,f q=some e)->(l.map Prod.fst).zip (l.filterMap f)=l.filterMap fun q=>(f q).map (q.1,·)
 |[],_=>rfl
 |q::l,h=>by
  obtain⟨e,he⟩:=h q (by simp);rw[List.map_cons,List.filterMap_cons_some he,List.zip_cons_cons,zjK fun q hq=>h q (by simp [hq]),List.filterMap_cons_some (b:=(q.1,e)) (by rw[he];rfl)]
def live (m:Nat)(o:Array (Option Nat)):List (Nat×Nat):=(List.range (m+1)).filterMap fun j=>(o.getD j none).map (j,·)
theorem zdK (m:Nat)(o:Array (Option Nat)):(live m o).map Prod.fst=(List.range (m+1)).filter fun j=>(o.getD j none).isSome:=by
 unfold live;rw[List.map_filterMap]
 induction (List.range (m+1)) with
 |nil=>rfl
 |cons j l ih=>
  cases e:o.getD j none with
  |none=>rw[List.filterMap_cons_none (by rw[e];rfl),List.filter_cons_of_neg (by rw[e];simp),ih]
  |some k=>rw[List.filterMap_cons_some (b:=j) (by rw[e];rfl),List.filter_cons_of_pos (by rw[e];rfl),ih]
theorem zcF {m:Nat}{hs:List Int}{o:Array (Option Nat)}{S:List (Nat×Nat)}(l:Ly m hs o S)(q:Nat×Nat):q∈live m o↔q∈S:=by
 obtain⟨j,k⟩:=q;unfold live;rw[List.mem_filterMap,<- l.mem];constructor
 ·rintro⟨a,h1,h2⟩;obtain⟨b,h3,h4⟩:=Option.map_eq_some_iff.mp h2;cases h4;have ha:j<o.size:=by rw[l.sz];exact List.mem_range.mp h1
  simp [Array.getD,ha] at h3;rw[<- h3];simp [ha]
 ·intro h;have ha:j<o.size:=(Array.getElem?_eq_some_iff.mp h).1;refine⟨j,List.mem_range.mpr (by rw[<- l.sz];exact ha),?_⟩
  have:o.getD j none=some k:=by
   have e:=(Array.getElem?_eq_some_iff.mp h).2;simp [Array.getD,ha,e]
  rw[this];rfl
theorem zht {m:Nat}{hs:List Int}{o:Array (Option Nat)}{S:List (Nat×Nat)}(l:Ly m hs o S):(live m o).Perm S:=by
 refine(List.perm_ext_iff_of_nodup ?_ ?_).mpr fun q=>zcF l q
 ·have:((live m o).map Prod.fst).Nodup:=by rw[zdK];exact List.Pairwise.filter _ List.nodup_range
  exact(List.pairwise_map.mp this).imp fun h z=>h (congrArg Prod.fst z)
 ·exact(List.pairwise_map.mp l.nd).imp fun h z=>h (congrArg Prod.fst z)
theorem zlp {m:Nat}(hm:Mk m)(fi mv:Nat)(ld pl:Bool)(es:Array (Int×Value))(hl:es.size<=m) :
  ∃ t' order,laid m fi mv ld pl (es.map (·.1))=some (t',order)/\Ok t'/\t'.mask=m/\t'.led=ld/\t'.plain=pl/\t'.moves=mv/\(order.filterMap (es[·]?)).toList.Perm es.toList/\t'.place.size=es.size/\Wb t' (order.filterMap (es[·]?)):=by
 obtain⟨o,S,h1,l⟩:=znQ hm (es.map (·.1)) (by simpa using hl);refine⟨_,_,by unfold laid;rw[h1];rfl,?_⟩;show Ok { mask:=m,place:=((live m o).map (·.1)).toArray,dummies:=#[],finger:=fi,led:=ld,moves:=mv,plain:=pl }/\_=_/\_/\_/\_/\(((live m o).map (·.2)).toArray.filterMap (es[·]?)).toList.Perm _/\_/\Wb { mask:=m,place:=((live m o).map (·.1)).toArray,dummies:=#[],finger:=fi,led:=ld,moves:=mv,plain:=pl } (((live m o).map (·.2)).toArray.filterMap (es[·]?));have pm:=zht l;have ll:(live m o).length=es.size:=by rw[pm.length_eq,l.len];simp
 have es':(((live m o).map (·.2)).toArray.filterMap (es[·]?)).toList=(live m o).filterMap fun q=>es[q.2]?:=by
  rw[Array.toList_filterMap,List.filterMap_map];rfl
 have hsome:∀ q∈live m o,∃ e,es[q.2]?=some e:=fun q hq=>by
  have h2:q.2∈S.map Prod.snd:=List.mem_map.mpr ⟨q,(zcF l q).mp hq,rfl⟩;rw[l.ix,List.mem_range] at h2;have h3:q.2<es.size:=by simpa using h2
  exact⟨es[q.2],by simp [h3]⟩
 have hsS:(S.filterMap fun q=>es[q.2]?)=es.toList:=by
  have:(S.filterMap fun q=>es[q.2]?)=(S.map Prod.snd).filterMap (es[·]?):=by rw[List.filterMap_map];rfl
  rw[this,l.ix];have e:(es.map (·.1)).toList.length=es.size:=by simp
  rw[e];exact filterMap_getElem?_range es
 have psz:((live m o).map (·.1)).toArray.size=es.size:=by simp [ll]
 refine⟨⟨rs_iff.mpr ?_,rfl,fun j hj=>?_,?_⟩,rfl,rfl,rfl,rfl,?_,psz,?_⟩
 ·show((live m o).map Prod.fst).Pairwise (·<·);rw[zdK];exact List.Pairwise.filter _ List.pairwise_lt_range
 ·have hj':j∈(live m o).map Prod.fst:=hj;rw[zdK,List.mem_filter,List.mem_range] at hj';show j<=m;omega
 ·rw[psz];exact hl
 ·rw[es',<- hsS];exact pm.filterMap _
 ·intro j e he
  have hz:Con { mask:=m,place:=((live m o).map (·.1)).toArray,dummies:=#[],finger:=fi,led:=ld,moves:=mv,plain:=pl } (((live m o).map (·.2)).toArray.filterMap (es[·]?))=(live m o).filterMap fun q=>(es[q.2]?).map (q.1,·):=by
   unfold Con;rw[es'];exact zjK hsome
  rw[hz,List.mem_filterMap] at he;obtain⟨⟨j',k⟩,hq,h3⟩:=he;obtain⟨e',h4,h5⟩:=Option.map_eq_some_iff.mp h3;cases h5;obtain⟨h,h6,n,h7,h8⟩:=l.wy j' k ((zcF l _).mp hq)
  have h9:(es.map (·.1)).toList[k]?=some e.1:=by
   rw[Array.getElem?_toList,Array.getElem?_map];have:es[k]?=some e:=h4;rw[this];rfl
  rw[h9] at h6;cases h6;refine⟨n,h7,fun c hc=>?_⟩;obtain⟨k',e⟩:=h8 c hc;show _∈(live m o).map Prod.fst;exact List.mem_map.mpr ⟨_,(zcF l _).mpr ((l.mem _ k').mp e),rfl⟩
end ST
set_option maxHeartbeats 4000000
namespace ST
open PySem PySem.SetTable
structure EK (prog:Program)(w:World)(K:Type) [DecidableEq K] where
 is:Heap->K->Addr->Prop
 hash:K->Int
 room:Around->Prop
 inj:∀{h:Heap}{a:Addr}{x y:K},is h x a->is h y a->x=y
 keeps:∀{h h':Heap}{k:K}{a:Addr},is h k a->(∀ b o it n,h.get? b=some o->o.data=.seq it n->h'.get? b=some o)->is h' k a
 typ:∀{h:Heap}{k:K}{a:Addr},is h k a->∃ it,h.IsTuple a it
 pyHash:∀{A:Around}{E:Value->Shared->Prop}{s:Shared}{k:K}{a:Addr}{Q:Int->Shared->Prop},room A->is s.heap k a->(∀ tk,s.toks<=tk->Q (hash k) { s with toks:=tk })->wpAny (model prog w) A (PySem.pyHash (.ref a)) Q E s
 eqBool:∀{A:Around}{E:Value->Shared->Prop}{s:Shared}{x y:K}{a b:Addr}{Q:Bool->Shared->Prop},room A->is s.heap x a->is s.heap y b->Q (decide (x=y)) s->wpAny (model prog w) A (PySem.eqBool (.ref a) (.ref b)) Q E s
 quiet:∀{A:Around}{E:Value->Shared->Prop}{s:Shared}{k:K}{a:Addr}{Q:Bool->Shared->Prop},is s.heap k a->Q true s->wpAny (model prog w) A (eqIsQuiet 8 (.ref a)) Q E s
 cls:∀{A:Around}{E:Value->Shared->Prop}{s:Shared}{k:K}{a:Addr}{Q:Bool->Shared->Prop},is s.heap k a->Q false s->wpAny (model prog w) A (ofAClassStatement 8 (.ref a)) Q E s
 hbv:∀{A:Around}{E:Value->Shared->Prop}{s:Shared}{k:K}{a:Addr}{Q:Bool->Shared->Prop},is s.heap k a->(∀ b,Q b s)->wpAny (model prog w) A (hashByValue 8 (.ref a)) Q E s
structure EAt {prog:Program}{w:World}{K:Type} [DecidableEq K] (k:EK prog w K)(lb:Bool)(h0 h:Heap)(S:Addr)(L:List K)(es:Array (Int×Value))(ep:Nat)(t:SetTable):Prop where
 get:∃ o,h.get? S=some o/\o.ExactSet/\o.data=.set es ep t
 ok:Ok t
 mm:Mk t.mask
 sz:t.place.size=es.size
 wb:Wb t es
 led:t.led=lb
 sm:es.size<=4\/t.mask=31
 few:es.size<=18
 nd:L.Nodup
 el:∃ ks:List (K×Addr),es.toList=ks.map (fun p=>(k.hash p.1,Value.ref p.2))/\(∀ p∈ks,k.is h0 p.1 p.2)/\(ks.map (·.1)).Perm L
 up:∀ b o,h0.get? b=some o->h.get? b=some o
theorem zdP {t:SetTable}(k:Ok t){es:Array (Int×Value)}(hs:t.place.size=es.size):t.fits es.size=true:=by
 have:=k.few;have e:t.fill=t.place.size:=by unfold fill;rw[k.dm];rfl
 unfold fits;rw[e];simp [hs];omega
section
variable {prog:Program}{w:World}{K:Type} [DecidableEq K] {k:EK prog w K}{A:Around}{E:Value->Shared->Prop}{s:Shared}{S:Addr}{h0:Heap}{lb:Bool}{L:List K}{es:Array (Int×Value)}{ep:Nat}{t:SetTable}
theorem EAt.is (T:EAt k lb h0 s.heap S L es ep t){y:K}{b:Addr}(h:k.is h0 y b):k.is s.heap y b:=k.keeps h fun c o it n e _=>T.up c o e
theorem EAt.at (T:EAt k lb h0 s.heap S L es ep t){i:Nat}{e:Int×Value}(h:es[i]?=some e):∃ y b,e=(k.hash y,.ref b)/\k.is s.heap y b/\y∈L:=by
 obtain⟨ks,h1,h2,h3⟩:=T.el;have m:e∈es.toList:=Array.mem_toList_iff.mpr (Array.mem_of_getElem? h);rw[h1,List.mem_map] at m;obtain⟨p,hp,rfl⟩:=m;exact⟨p.1,p.2,rfl,T.is (h2 p hp),h3.mem_iff.mp (List.mem_map.mpr ⟨p,hp,rfl⟩)⟩
theorem EAt.has (T:EAt k lb h0 s.heap S L es ep t){y:K}(h:y∈L):∃(i:Nat)(b:Addr),es[i]?=some (k.hash y,.ref b)/\k.is s.heap y b:=by
 obtain⟨ks,h1,h2,h3⟩:=T.el;obtain⟨p,hp,rfl⟩:=List.mem_map.mp (h3.mem_iff.mpr h);obtain⟨i,hi⟩:=List.getElem?_of_mem hp;refine⟨i,p.2,?_,T.is (h2 p hp)⟩;rw[<- Array.getElem?_toList,h1,List.getElem?_map,hi];rfl
theorem zkQ {x:K}{a:Addr}{vs:List Value}{Q:Bool->Shared->Prop}(hx:k.is s.heap x a)(hv:∀ v∈vs,∃ y b,v=.ref b/\k.is s.heap y b)(h:Q false s):wpAny (model prog w) A (searchCouldBeSeen (.ref a) vs) Q E s:=by
 unfold searchCouldBeSeen;refine wpAny_bind ?_;refine wpAny_forIn_list _ (fun rest r s'=>r.1=none/\s'=s/\∀ v∈rest,∃ y b,v=.ref b/\k.is s.heap y b) _ ?_ ?_ _ _ ⟨rfl,rfl,hv⟩
 ·rintro v rest r s' ⟨hr,rfl,hall⟩;obtain⟨y,b,rfl,hy⟩:=hall v List.mem_cons_self;have nx:∀ v∈rest,∃ y b,v=.ref b/\k.is s'.heap y b:=fun v hv=>hall v (List.mem_cons_of_mem _ hv);dsimp only
  split
  ·exact wpAny_pure ⟨rfl,rfl,nx⟩
  ·refine wpAny_bind (k.quiet hx ?_);refine wpAny_bind (k.quiet hy ?_);refine wpAny_bind (k.cls hx ?_);refine wpAny_bind (k.cls hy ?_);exact wpAny_pure ⟨rfl,rfl,nx⟩
 ·rintro⟨r1,r2⟩ s' ⟨hr,rfl,_⟩;simp only at hr;subst hr;exact wpAny_pure h
def Past (k:EK prog w K)(s:Shared)(es:Array (Int×Value))(t:SetTable)(x:K)(n:Nat):Prop:=
 ∀ c,c<n->∃(i:Nat)(e:Int×Value),t.place[i]?=some (way t.mask (k.hash x) c)/\es[i]?=some e/\(e.1=k.hash x->∃ y b,e.2=.ref b/\k.is s.heap y b/\y≠x)
theorem zgZ {t:SetTable}(o:Ok t){i i' j:Nat}(h:t.place[i]?=some j)(h':t.place[i']?=some j):i=i':=by
 have e1:=zbP o h;have e2:=zbP o h';rw[e1] at e2;cases e2;rfl
theorem ziV (T:EAt k lb h0 s.heap S L es ep t){x:K}{n:Nat}(p:Past k s es t x n)(he:way t.mask (k.hash x) n∉t.place.toList):x∉L:=fun m=>by
 obtain⟨i,b,h1,h2⟩:=T.has m
 have hi:i<es.size:=by
  rcases Nat.lt_or_ge i es.size with z|z
  ·exact z
  ·rw[Array.getElem?_eq_none z] at h1;cases h1
 have hp:t.place[i]?=some (t.place[i]'(by rw[T.sz];exact hi)):=Array.getElem?_eq_getElem _;obtain⟨n',h3,h4⟩:=T.wb _ _ (con_at.mpr ⟨i,hp,h1⟩);rcases Nat.lt_trichotomy n' n with z|z|z
 ·obtain⟨i',e,h5,h6,h7⟩:=p n' z;rw[show way t.mask (k.hash x) n'=_ from h3] at h5;have ei:=zgZ T.ok h5 hp;subst ei;rw[h1] at h6;cases h6;obtain⟨y,b',e1,e2,e3⟩:=h7 rfl;cases e1;exact e3 (k.inj e2 h2)
 ·subst z;apply he;rw[show way t.mask (k.hash x) n'=_ from h3];exact Array.mem_toList_iff.mpr (Array.mem_of_getElem? hp)
 ·exact he (h4 n z)
theorem znH {m:Nat}(h:Mk m):(m % 2==0)=false:=by rcases h with rfl|rfl<;>rfl
theorem zdt (T:EAt k lb h0 s.heap S L es ep t){x:K}{a:Addr}(hx:k.is s.heap x a)(hr:k.room A){ad:Bool}{Q:SetFound->Shared->Prop}(N:Nat)(hN:way t.mask (k.hash x) N∉t.place.toList)
  (h1:∀ i,(ad=false->i.isSome=true)->x∈L->Q (.there i) s)(h2:∀ n,x∉L->(∀ c,c<n->way t.mask (k.hash x) c∈t.place.toList)->way t.mask (k.hash x) n∉t.place.toList->Q (.free (way t.mask (k.hash x) n) false) s) :
  ∀(f n:Nat)(st:Option Probe),N<n+f->n<=N->st.getD (t.probeStart (k.hash x))=pth t.mask (rst t.mask (bits (k.hash x) % (t.mask+1)) (bits (k.hash x))) n->Past k s es t x n->wpAny (model prog w) A (setSearchFrom S (.ref a) (k.hash x) ad f st) Q E s
 |0,n,st,hf,hn,hs,hp=>by omega
 |f+1,n,st,hf,hn,hs,hp=>by
  obtain⟨o,ho,hx',hd⟩:=T.get;have fit:=zdP T.ok T.sz;unfold setSearchFrom;refine wpAny_bind (wpAny_setState_of ho hd fit ?_);dsimp only;have gw:t.gaveWay=false:=znH T.mm;rw[gw];simp only[Bool.false_eq_true,if_false];show wpAny _ _ (match t.probe (fun i=>(es[i]?.map (·.1)).getD 0) (k.hash x) (st.getD (t.probeStart (k.hash x))) with|some met=>_|_=>_) _ _ _;rw[hs];obtain⟨m,g1,g2⟩:=zgU T.ok T.mm (zeS (zcN t.mask (k.hash x)) n) (fun i=>(es[i]?.map (·.1)).getD 0) (k.hash x);have sh:∀ c,pth t.mask (pth t.mask (rst t.mask (bits (k.hash x) % (t.mask+1)) (bits (k.hash x))) n) c=pth t.mask (rst t.mask (bits (k.hash x) % (t.mask+1)) (bits (k.hash x))) (n+c):=fun c=>(zcb _ _ _ _).symm;simp only[sh] at g1 g2
  have ea:∀ i j,t.place[i]?=some j->∃ e,es[i]?=some e:=fun i j hij=>by
   have:i<t.place.size:=by
    rcases Nat.lt_or_ge i t.place.size with z|z
    ·exact z
    ·rw[Array.getElem?_eq_none z] at hij;cases hij
   exact⟨es[i]'(by rw[<- T.sz];exact this),Array.getElem?_eq_getElem _⟩
  have pm:Past k s es t x (n+m):=fun c hc=>by
   rcases Nat.lt_or_ge c n with z|z
   ·exact hp c z
   ·obtain⟨c',rfl⟩:∃ c',c=n+c':=⟨c-n,by omega⟩;obtain⟨i,q1,q2⟩:=g1 c' (by omega);obtain⟨e,he⟩:=ea i _ q1;refine⟨i,e,q1,he,fun z=>(q2 ?_).elim⟩;simp [he,z]
  have full:∀ c,c<n+m->way t.mask (k.hash x) c∈t.place.toList:=fun c hc=>by
   obtain⟨i,e,q1,_⟩:=pm c hc;exact Array.mem_toList_iff.mpr (Array.mem_of_getElem? q1)
  rcases g2 with ⟨q1,q2⟩|⟨i,q1,q2,q3⟩
  ·rw[q1];dsimp only;exact wpAny_pure (h2 (n+m) (ziV T pm q2) full q2)
  ·rw[q1];dsimp only;obtain⟨e,he⟩:=ea i _ q2;obtain⟨y,b,rfl,hy,my⟩:=T.at he;have sm:t.sameMemory t.moves t.mask=some true:=by unfold sameMemory;simp
   have sl:t.slot (way t.mask (k.hash x) (n+m))=.live i:=zbP T.ok q2
   have go:wpAny (model prog w) A (do
     let some (_,y):=es[i]?|unsupported "internal:set-entry"
     let equal <- holding [y] (eqBool y (.ref a))
     let (es',_,t') <- setState S
     if ad&&equal then return .there none
     let some same:=t'.sameMemory t.moves t.mask|unsupported "set.changed-during-lookup:is-the-new-block-at-the-old-address"
     let still <- match (if same then t'.slot (way t.mask (k.hash x) (n+m)) else .empty) with
      |.live i'=>match es'[i']? with
       |some (_,y')=>do pure (if <- isSame y' y then some i' else none)
       |none=>pure none
      |_=>pure none
     match still with
     |none=>rule "set.search.anew";setSearchFrom S (.ref a) (k.hash x) ad f none
     | some i'=>if equal then return .there (some i') else setSearchFrom S (.ref a) (k.hash x) ad f (some (pth t.mask (rst t.mask (bits (k.hash x) % (t.mask+1)) (bits (k.hash x))) (n+m+1)))) Q E s:=by
    rw[he];dsimp only;refine wpAny_bind (wpAny_holding (k.eqBool hr hy hx ?_));refine wpAny_bind (wpAny_setState_of ho hd fit ?_);dsimp only;by_cases hyx:y=x
    ·subst hyx;rw[decide_eq_true rfl];cases ad
     ·simp only[Bool.false_and,Bool.false_eq_true,if_false];rw[sm];simp only[if_true];rw[sl];dsimp only;rw[he];dsimp only;refine wpAny_bind (wpAny_isSame_ref_self (wpAny_bind (wpAny_pure ?_)));simp only[if_true];exact wpAny_pure (h1 _ (fun _=>rfl) my)
     ·exact wpAny_pure (h1 _ (fun z=>nomatch z) my)
    ·rw[decide_eq_false hyx];simp only[Bool.and_false,Bool.false_eq_true,if_false];rw[sm];simp only[if_true];rw[sl];dsimp only;rw[he];dsimp only;refine wpAny_bind (wpAny_isSame_ref_self (wpAny_bind (wpAny_pure ?_)));simp only[if_true]
     have lt:n+m<N:=by
      rcases Nat.lt_trichotomy (n+m) N with z|z|z
      ·exact z
      ·subst z;exact(hN (Array.mem_toList_iff.mpr (Array.mem_of_getElem? q2))).elim
      ·exact(hN (full N z)).elim
     refine zdt T hx hr N hN h1 h2 f (n+m+1) _ (by omega) (by omega) rfl fun c hc=>?_;rcases Nat.lt_or_ge c (n+m) with z|z
     ·exact pm c z
     ·have:c=n+m:=by omega
      subst this;exact⟨i,_,q2,he,fun _=>⟨y,b,rfl,hy,hyx⟩⟩
   split
   ·refine wpAny_bind (zkQ hx (fun v hv=>?_) ?_)
    ·obtain⟨e,he,rfl⟩:=List.mem_map.mp hv;rw[Array.mem_toList_iff,Array.mem_filter] at he;obtain⟨i,hi⟩:=Array.getElem?_of_mem he.1;obtain⟨y,b,rfl,q,_⟩:=T.at hi;exact⟨y,b,rfl,q⟩
    ·exact go
   ·exact go
theorem zea (T:EAt k lb h0 s.heap S L es ep t){x:K}{a:Addr}(hx:k.is s.heap x a)(hr:k.room A){ad:Bool}{Q:SetFound->Shared->Prop}
  (h1:∀ i,(ad=false->i.isSome=true)->x∈L->Q (.there i) s)(h2:∀ n,x∉L->(∀ c,c<n->way t.mask (k.hash x) c∈t.place.toList)->way t.mask (k.hash x) n∉t.place.toList->way t.mask (k.hash x) n<=t.mask->Q (.free (way t.mask (k.hash x) n) false) s) :
  wpAny (model prog w) A (setSearch S (.ref a) (k.hash x) ad) Q E s:=by
 obtain⟨j,e1,e2⟩:=zeu T.ok;obtain⟨N,e3,e4⟩:=zgR T.mm (zcN t.mask (k.hash x)) e1;have tn:turns t.mask<=1000:=by rcases T.mm with z|z<;>rw[z]<;>decide
 exact zdt T hx hr N (by show(pth _ _ _).j∉_;rw[e4];exact e2) h1 (fun n a1 a2 a3=>h2 n a1 a2 a3 (Nat.le_trans (Nat.le_add_right _ _) (zeS (zcN t.mask (k.hash x)) n).j)) 100000 0 none (by omega) (Nat.zero_le _) rfl fun c hc=>by omega
end
end ST
namespace ST
open PySem PySem.SetTable
def addk {K:Type} [DecidableEq K] (L:List K)(x:K):List K:=if x∈L then L else L++[x]
theorem zir {K:Type} [DecidableEq K] {L:List K}(h:L.Nodup)(x:K):(addk L x).Nodup:=by
 unfold addk
 split
 ·exact h
 ·rename_i hz;refine List.nodup_append.mpr ⟨h,by simp,fun a ha b hb e=>?_⟩;rw[List.mem_singleton] at hb;exact hz (hb▸e▸ha)
theorem zjJ {K:Type} [DecidableEq K] {L:List K}{x y:K}:y∈addk L x↔y∈L\/y=x:=by
 unfold addk
 split
 ·rename_i hz;exact⟨.inl,fun h=>h.elim id fun e=>e▸hz⟩
 ·rw[List.mem_append,List.mem_singleton]
theorem zgY {α β:Type}{f:α->β}{l m:List β}(h:l.Perm m):∀ ks:List α,m=ks.map f->∃ ks':List α,l=ks'.map f/\ks'.Perm ks:=by
 induction h with
 |nil=>exact fun ks e=>⟨[],rfl,by have:=List.map_eq_nil_iff.mp e.symm;rw[this]⟩
 |cons x p ih=>
  intro ks e
  cases ks with
  |nil=>cases e
  |cons a r=>
   cases e;obtain⟨r',e1,e2⟩:=ih r rfl;exact⟨a::r',by rw[e1];rfl,e2.cons a⟩
 |swap x y l=>
  intro ks e
  match ks,e with
  |a::b::r,e=>
   cases e;exact⟨b::a::r,rfl,.swap a b r⟩
 |trans p q ip iq=>
  intro ks e;obtain⟨k1,e1,p1⟩:=iq ks e;obtain⟨k2,e2,p2⟩:=ip k1 e1;exact⟨k2,e2,p2.trans p1⟩
section
variable {prog:Program}{w:World}{K:Type} [DecidableEq K] {k:EK prog w K}{A:Around}{E:Value->Shared->Prop}{s:Shared}{S:Addr}{h0:Heap}{lb:Bool}{L:List K}{es:Array (Int×Value)}{ep:Nat}{t:SetTable}
theorem zgQ {h:Heap}{o:Obj}{es':Array (Int×Value)}{t':SetTable}(ho:h.get? S=some o)(hd:o.data=.set es ep t):(h.update S (Obj.putSet es' t')).get? S=some { o with data:=.set es' (ep+1) t' }:=by
 have z:=Heap.get?_update_self (Obj.putSet es' t') ho (by rw[putSet_of es' t' hd];rfl);rwa [putSet_of es' t' hd] at z
theorem zjL {h h':Heap}(n:h0.objs.size<=S)(u:∀ b o,h0.get? b=some o->h.get? b=some o)(b:Heap.SameBut S h h'):∀ b o,h0.get? b=some o->h'.get? b=some o:=fun c o e=>by
 rw[b.2 c fun z=>Nat.lt_irrefl _ (Nat.lt_of_lt_of_le (z▸Heap.lt_size e) n)];exact u c o e
theorem zkM (T:EAt k lb h0 s.heap S L es ep t)(new:h0.objs.size<=S){x:K}{a:Addr}(hx:k.is h0 x a)(hr:k.room A)(room:L.length+1<=18){Q:Bool->Shared->Prop}
  (h:∀ b h' e2 p2 t2,Heap.SameBut S s.heap h'->EAt k lb h0 h' S (addk L x) e2 p2 t2->Q b { s with heap:=h' }) :
  wpAny (model prog w) A (setAddHashed S (.ref a) (k.hash x)) Q E s:=by
 obtain⟨o,ho,ex,hd⟩:=T.get;have fit:=zdP T.ok T.sz;obtain⟨ks,k1,k2,k3⟩:=T.el
 have hlen:es.size=L.length:=by
  rw[<- k3.length_eq,List.length_map,<- Array.length_toList,k1,List.length_map]
 unfold setAddHashed setAddHashedIn;refine wpAny_holding (wpAny_bind (wpAny_setState_of ho hd fit ?_));dsimp only;rw[if_neg (by unfold byScan Value.scannable;simp)];refine wpAny_bind (zea T (T.is hx) hr (fun i _ hm=>?_) fun n hn hf he hle=>?_)
 ·dsimp only;refine wpAny_pure ?_;have q:=h false s.heap es ep t (Heap.SameBut.refl S s.heap) (by unfold addk;rw[if_pos hm];exact T);cases s;exact q
 ·dsimp only;refine wpAny_bind (wpAny_setState_of ho hd fit ?_);dsimp only;generalize hj:way t.mask (k.hash x) n=j at *
  have few5:t.place.size+1<=t.mask:=by
   have:=T.few;rw[T.sz];rcases T.mm with z|z
   ·rcases T.sm with y|y<;>omega
   ·omega
  have o1:=zng T.ok hle he few5;have w1:Wb (t.put j).1 (insertAt es (t.put j).2 (k.hash x,.ref a)):=znf T.ok T.sz T.wb hj (fun c hc=>hf c hc)
  have z1:(insertAt es (t.put j).2 (k.hash x,Value.ref a)).size=es.size+1:=by
   have:=(insertAt_perm es (t.put j).2 (k.hash x,Value.ref a)).length_eq;simpa using this
  have s1:(t.put j).1.place.size=es.size+1:=by
   have:=(insertAt_perm t.place (below t.place j) j).length_eq;have e:(t.put j).1.place=insertAt t.place (below t.place j) j:=rfl;rw[e,<- Array.length_toList,this];simp [T.sz]
  have m1:(t.put j).1.mask=t.mask:=rfl;have l1:(t.put j).1.led=lb:=T.led
  have el1:∃ ks:List (K×Addr),(insertAt es (t.put j).2 (k.hash x,Value.ref a)).toList=ks.map (fun p=>(k.hash p.1,Value.ref p.2))/\(∀ p∈ks,k.is h0 p.1 p.2)/\(ks.map (·.1)).Perm (addk L x):=by
   have e0:(insertAt es (t.put j).2 (k.hash x,Value.ref a)).toList.Perm ((ks++[(x,a)]).map (fun p=>(k.hash p.1,Value.ref p.2))):=by
    refine(insertAt_perm es (t.put j).2 (k.hash x,Value.ref a)).trans ?_;rw[List.map_append,<- k1];simp
   obtain⟨k',p1,p2⟩:=zgY e0 _ rfl;refine⟨k',p1,fun p hp=>?_,?_⟩
   ·rcases List.mem_append.mp (p2.mem_iff.mp hp) with z|z
    ·exact k2 p z
    ·rw[List.mem_singleton] at z;rw[z];exact hx
   ·refine(p2.map _).trans ?_;unfold addk;rw[if_neg hn,List.map_append];exact k3.append_right _
  generalize hE:insertAt es (t.put j).2 (k.hash x,Value.ref a)=e1 at *;generalize hT:(t.put j).1=t1 at *
  have fin:∀ t2:SetTable,t2.mask=t1.mask->t2.place=t1.place->t2.dummies=t1.dummies->t2.led=t1.led->wpAny (model prog w) A (do
    storeSet S e1 t2
    if (!false&&t2.tooFull)=true then do
      setRelay S (SetTable.grown (es.size+1))
      pure true
     else pure true) Q E s:=fun t2 q1 q2 q3 q4=>by
   have o2:Ok t2:=⟨q2▸o1.rs,q3▸o1.dm,by rw[q2,q1];exact o1.le,by rw[q2,q1];exact o1.few⟩
   have w2:Wb t2 e1:=by
    unfold Wb Con at w1 ⊢;rw[q2,q1];exact w1
   have b1:=Heap.SameBut.update s.heap S (Obj.putSet e1 t2);have g1:=zgQ (es':=e1) (t':=t2) ho hd;have hz:e1.size<=sizeLine:=fits_of_scanBound (by have:scanBound=4096:=rfl;rw[z1];omega);obtain⟨ks1,y1,y2,y3⟩:=el1;refine wpAny_bind (wpAny_storeSet_of ho hd ?_ hz);have fl:t2.fill=es.size+1:=by unfold fill;rw[q3,o1.dm,q2,s1];rfl
   split
   ·rename_i tf
    have e5:es.size=4/\t2.mask=7:=by
     have tf':t2.fill*5≥t2.mask*3:=by simpa [tooFull] using tf
     rw[fl,q1,m1] at tf';rw[q1,m1];have:=T.few;rcases T.mm with z|z
     ·rw[z] at tf' ⊢;rcases T.sm with y|y<;>omega
     ·rw[z] at tf';omega
    unfold setRelay;have fit1:t2.fits e1.size=true:=zdP o2 (by rw[q2,s1,z1]);refine wpAny_bind (wpAny_bind (wpAny_setState_of g1 rfl fit1 ?_));dsimp only;rw[e5.1];have sa:sizeAbove (grown (4+1))=32:=by decide
    rw[sa];rw[if_neg (by rw[sizeLine_eq];decide)];obtain⟨t3,od,r1,r2,r3,r4,r5,r6,r7,r8,r9⟩:=zlp (m:=31) (.inr rfl) t2.finger (t2.movedTo 31) t2.led t2.plain e1 (by rw[z1,e5.1];decide)
    have rl:t2.relaid (e1.map (·.1)) (grown (4+1))=some (t3,od):=by
     unfold relaid;rw[sa];exact r1
    have z3:(od.filterMap (e1[·]?)).size=e1.size:=by rw[<- Array.length_toList,r7.length_eq,Array.length_toList]
    show wpAny _ _ ((do
     let some (t,order):=t2.relaid (e1.map (·.1)) (grown (4+1))|unsupported "internal:set-table-without-room"
     let es':=order.filterMap (e1[·]?)
     if es'.size != e1.size then unsupported "internal:set-table-lost-an-element"
     pure (es',t):Sem (Array (Int×Value)×SetTable)) >>= _) _ _ _
    rw[rl];dsimp only;rw[if_neg (by rw[z3];simp)];refine wpAny_bind (wpAny_bind (wpAny_pure (wpAny_pure ?_)));dsimp only;refine wpAny_storeSet_of g1 rfl ?_ (by rw[z3];exact hz);have b2:=b1.trans (Heap.SameBut.update _ S (Obj.putSet (od.filterMap (e1[·]?)) t3));have g2:=zgQ (es':=od.filterMap (e1[·]?)) (t':=t3) g1 rfl;have r7':=r7;rw[y1] at r7';obtain⟨ks3,v1,v2⟩:=zgY r7' _ rfl;refine wpAny_pure (h true _ _ _ t3 b2 ⟨⟨_,g2,ex,rfl⟩,r2,by rw[r3];exact .inr rfl,by rw[r8,z3],r9,by rw[r4,q4,l1],.inr r3,by rw[z3,z1];omega,zir T.nd x,⟨ks3,v1,fun p hp=>y2 p (v2.mem_iff.mp hp),(v2.map _).trans y3⟩,zjL new T.up b2⟩)
   ·rename_i tf;refine wpAny_pure (h true _ _ _ t2 b1 ⟨⟨_,g1,ex,rfl⟩,o2,by rw[q1,m1];exact T.mm,by rw[q2,s1,z1],w2,by rw[q4,l1],?_,by rw[z1];omega,zir T.nd x,⟨ks1,y1,y2,y3⟩,zjL new T.up b1⟩);have tf':¬ t2.fill*5≥t2.mask*3:=by simpa [tooFull] using tf
    rw[fl,q1,m1] at tf';rw[q1,m1,z1];rcases T.mm with z|z
    ·rw[z] at tf';left;omega
    ·exact .inr z
  split
  ·refine wpAny_bind (k.hbv (T.is hx) fun b=>?_);cases b
   ·exact fin _ rfl rfl rfl rfl
   ·exact fin t1 rfl rfl rfl rfl
  ·refine wpAny_bind (wpAny_pure ?_);exact fin t1 rfl rfl rfl rfl
end
end ST
namespace ST
open PySem PyProof.Rows
section
variable {K:Type} [DecidableEq K]
def dedk (ys:List K):List K:=ys.foldl addk []
theorem zjx (ys:List K):(dedk ys).length<=ys.length:=by
 have q:∀(ys zs:List K),(ys.foldl addk zs).length<=zs.length+ys.length:=by
  intro ys
  induction ys with
  |nil=>intro zs;simp
  |cons y r ih=>
   intro zs;refine Nat.le_trans (ih (addk zs y)) ?_
   have:(addk zs y).length<=zs.length+1:=by
    unfold addk
    split
    ·omega
    ·simp
   simp only[List.length_cons];omega
 have z:=q ys [];rw[List.length_nil,Nat.zero_add] at z;exact z
theorem zhW (ys:List K)(z:K):dedk (ys++[z])=addk (dedk ys) z:=by
 unfold dedk;rw[List.foldl_append];rfl
theorem zjw {ys:List K}{z:K}:z∈dedk ys↔z∈ys:=by
 have q:∀(ys zs:List K)(z:K),z∈ys.foldl addk zs↔z∈zs\/z∈ys:=by
  intro ys
  induction ys with
  |nil=>intro zs z;simp
  |cons y r ih=>
   intro zs z;rw[List.foldl_cons,ih,zjJ,List.mem_cons,or_assoc]
 unfold dedk;rw[q];simp
end
section
variable {prog:Program}{w:World}{K:Type} [DecidableEq K] {k:EK prog w K}{A:Around}{R:Result->Shared->Prop}{I:Addr}{fp wr:List Addr}{G:Array GenState->Array GenState->Prop}{n:Nat}{P:Nat->Value->Prop}{St:Nat->Shared->Prop}{lb:Bool}
theorem EAt.moved {h0 h h':Heap}{a:Addr}{L:List K}{es:Array (Int×Value)}{ep:Nat}{t:SetTable}(T:EAt k lb h0 h a L es ep t)(g:∀ o,h.get? a=some o->h'.get? a=some o)(m:∀ b o,h0.get? b=some o->h'.get? b=some o):EAt k lb h0 h' a L es ep t:=by
 obtain⟨o,ho,x⟩:=T.get;exact { T with get:=⟨o,g _ ho,x⟩,up:=m }
theorem zgv (W:WalksS prog w A.in1 I fp wr G n P St)(S:Addr)(hSf:S∉fp)(hr:k.room A.in1)(ys:List K)(hy:ys.length=n)(h0:Heap)(hS:h0.objs.size<=S)(hw:∀ b∈wr,h0.objs.size<=b)
  (hval:∀ i v,P i v->∃ z b,ys[i]?=some z/\v=.ref b/\k.is h0 z b)(hb:n<=18) :
  ∀(c i:Nat)(s:Shared),n-i=c->i<=n->St i s->(∃ es ep t,EAt k lb h0 s.heap S (dedk (ys.take i)) es ep t) ->
   (∀ s',Moved (S::wr) G s s'->(∃ es ep t,EAt k lb h0 s'.heap S (dedk ys) es ep t)->R (.ok (.ret .none)) s')->codeAny (model prog w) A (.builtin "set.update.loop" ⟨[.ref S,.ref I],[]⟩) R s:=by
 have nw:S∉wr:=fun m=>hSf (W.sub _ m);have sub:∀ b∈wr,b∈S::wr:=fun b m=>List.mem_cons_of_mem _ m
 have mvd:∀{s s':Shared}{L:List K}{es:Array (Int×Value)}{ep:Nat}{t:SetTable},Moved wr G s s'->EAt k lb h0 s.heap S L es ep t->EAt k lb h0 s'.heap S L es ep t:=fun mv T=>
  T.moved (fun o e=>mv.heap S o nw e) fun b o e=>mv.heap b o (fun m=>Nat.lt_irrefl _ (Nat.lt_of_lt_of_le (Heap.lt_size e) (hw b m))) (T.up b o e)
 intro c
 induction c with
 |zero=>
  intro i s hk hi st T fin;have e:i=n:=by omega
  subst e;refine codeAny_builtin PyProof.Rows.F.entry_set_update_loop ?_;rw[Around.under_plainId PyProof.Rows.F.plain_set_update_loop _];show wpAny _ A.in1 (pyNext (.ref I) >>= _) _ _ s;refine wpAny_bind (W.done s _ _ st fun s' mv=>?_);show wpAny _ A.in1 (ret Value.none) _ _ s';obtain⟨es,ep,t,T⟩:=T;rw[<- hy,List.take_length] at T;exact wpAny_pure (fin s' (mv.mono sub) ⟨es,ep,t,mvd mv T⟩)
 |succ c ih=>
  intro i s hk hi st T fin;have lt:i<n:=by omega
  refine codeAny_builtin PyProof.Rows.F.entry_set_update_loop ?_;rw[Around.under_plainId PyProof.Rows.F.plain_set_update_loop _];show wpAny _ A.in1 (pyNext (.ref I) >>= _) _ _ s;refine wpAny_bind (W.item i s _ _ lt st fun v s' hP st' mv=>?_);obtain⟨z,b,hz,rfl,hzb⟩:=hval i v hP;obtain⟨es,ep,t,T⟩:=T;have T':=mvd mv T;show wpAny _ A.in1 (holding [Value.ref b] (setAdd S (.ref b)) >>= _) _ _ s';refine wpAny_bind (wpAny_holding ?_);unfold setAdd;refine wpAny_holding ?_;refine wpAny_bind (k.pyHash hr (T'.is hzb) fun tk htk=>?_);have l1:=zjx (ys.take i);rw[List.length_take] at l1;refine zkM (s:={ s' with toks:=tk }) T' hS hzb hr (by omega) fun b h' e2 p2 t2 sb T2=>?_;have et:ys.take (i+1)=ys.take i++[z]:=by rw[List.take_add_one,hz];rfl
  rw[<- zhW,<- et] at T2;refine wpAny_pure ⟨plainId_quiet PyProof.Rows.F.plain_set_update_loop _,ih (i+1) _ (by omega) lt (W.frame _ s' _ _ st' htk fun c hc o e=>?_) ⟨e2,p2,t2,T2⟩ fun s2 mv2 T3=>?_⟩
  ·rw[sb.2 c (fun q:c=S=>hSf (q▸hc))];exact e
  ·refine fin s2 (Moved.trans W.gtrans ((mv.mono sub).then_heap htk fun c o hc e=>?_) mv2) T3;rw[sb.2 c (fun q:c=S=>hc (q▸List.mem_cons_self))];exact e
end
section
variable {prog:Program}{w:World}{K:Type} [DecidableEq K] {k:EK prog w K}{A:Around}{E:Value->Shared->Prop}{s:Shared}
theorem set_of {l:Addr}{items:Array Value}{ys:List K}{Q:Value->Shared->Prop}(hh:A.handled=none)(hl:s.heap.IsList l items)(hi:∀(i:Nat) v,items[i]?=some v->∃ z b,ys[i]?=some z/\v=.ref b/\k.is s.heap z b)(hn:items.size=ys.length)(hb:ys.length<=18)(hr:∀ A',A'.units<=A.units+8->k.room A')
  (h:∀ h' tk es ep t,EAt k (!L2.byT w) s.heap h' s.heap.objs.size (dedk ys) es ep t->(∀ b o,b<s.heap.objs.size->s.heap.get? b=some o->h'.get? b=some o)->Q (.ref s.heap.objs.size) { s with heap:=h',toks:=tk }) :
  wpAny (model prog w) A (call (.type "set") [.ref l]) Q E s:=by
 obtain⟨c,tl,q0⟩:=PySem.F.called_set.mro;have q1:=PySem.F.called_set.made;have q2:=PySem.F.called_set.sub;refine wpAny_call (codeAny_of_tree ?_);show wpAny _ _ (callAny (.type "set") _) _ _ _;refine wpAny_pure ⟨Code.quiet_builtin _ (by decide +kernel),codeAny_builtin PySem.F.entry_type_call ?_⟩;rw[Around.under_plain (weight_type_call_type "set" [.ref l] []) rfl];have q3:=PySem.F.called_set.notType;have q4:=PySem.F.called_set.canCreate;have q5:=PySem.F.typeCall_set_1 (.ref l)
 repeat (any_goals (first|assumption|wp_step))
 refine codeAny_mono (L2.new_set1 (.ref l) (E:=E) (Q₁:=fun obj s₁=>obj=.ref s.heap.objs.size/\s₁={ s with heap:=s.heap.push (L2.oSet w) }) ⟨rfl,rfl⟩) fun r s₁ hr=>?_
 cases r with
 |error e=>exact hr
 |ok fl=>
  cases fl with
  |ret obj=>
   obtain⟨rfl,rfl⟩:=hr;have g0:(s.heap.push (L2.oSet w)).get? s.heap.objs.size=some (L2.oSet w):=Heap.get?_push_size _ rfl;have ty:Shared.TypeIs { s with heap:=s.heap.push (L2.oSet w) } (.ref s.heap.objs.size) "set":=⟨_,g0,rfl⟩;have q6:=PySem.F.called_set.init.lookup;have q7:=PySem.F.called_set.init.bind (.ref s.heap.objs.size)
   repeat (any_goals (first|assumption|wp_step))
   refine codeAny_mono (codeAny_call_builtin (R:=wants (fun r s₂=>r=.none/\∃ h' tk,s₂={ s with heap:=h',toks:=tk }/\(∃ es ep t,EAt k (!L2.byT w) s.heap h' s.heap.objs.size (dedk ys) es ep t) /\
     (∀ b o,b<s.heap.objs.size->s.heap.get? b=some o->h'.get? b=some o)) E) PySem.F.called_set.init.plain PySem.F.entry_set_init (check_set_init_1 ty ?_)) fun r₂ s₂ hr₂=>?_
   ·obtain⟨ol,g1,cl,nl,dl⟩:=hl;obtain⟨ocls,odict,odata,oslots⟩:=ol;simp only at cl dl;subst cl;subst dl;have g2:(s.heap.push (L2.oSet w)).get? l=some { cls:=.type "list",dict:=odict,data:=.seq items nl,slots:=oslots }:=Heap.get?_push_of_some _ g1;have q8:=PySem.F.sub_list_set;have q9:=PySem.F.sub_list_frozenset;have q10:(Value.type "list"==Value.type "dict")=false:=by decide
    have l1:(s.heap.push (L2.oSet w)).IsList l items:=⟨_,g2,rfl,nl,rfl⟩;unfold Builtin.«set.__init__» noKeywords;unfold Builtin.Frozenset.updateFrom;generalize hPI:pyIter=PI;wp_walk;subst hPI;refine wpAny_pyIter_list l1 ?_;refine wpAny_bind (wpAny_runValue ?_);have lt:l<s.heap.objs.size:=Heap.lt_size g1;have hh3:A.in1.in1.in1.handled=none:=by simp [hh]
    have sz:(s.heap.push (L2.oSet w)).objs.size=s.heap.objs.size+1:=Heap.size_push ..;have ne:l≠(s.heap.push (L2.oSet w)).objs.size:=by rw[sz];exact Nat.ne_of_lt (Nat.lt_succ_of_lt lt)
    have nf:s.heap.objs.size∉[(s.heap.push (L2.oSet w)).objs.size,l]:=by
     rw[sz];simp only[List.mem_cons,List.mem_singleton,List.not_mem_nil,or_false,not_or];exact⟨Nat.ne_of_lt (Nat.lt_succ_self _),Nat.ne_of_gt lt⟩
    refine zgv (k:=k) (lb:=!L2.byT w) ((Walks.list hh3 _ l ne items).toS) s.heap.objs.size nf (hr _ ?_) ys hn.symm s.heap (Nat.le_refl _) ?_ (fun i v e=>hi i v e) (by rw[hn];exact hb) (items.size-0) 0 _ (by omega) (Nat.zero_le _)
     ⟨⟨_,Heap.get?_push_size _ rfl,rfl,rfl⟩,(l1.push _)⟩ ?_ ?_
    ·show A.units+1+1+1<=_;omega
    ·intro b m;rw[List.mem_singleton] at m;rw[m,sz];exact Nat.le_succ _
    ·exact⟨#[],0,.fresh 0 0 (!L2.byT w),⟨_,Heap.get?_push_of_some _ g0,⟨rfl,rfl,rfl⟩,rfl⟩,⟨fun i k hk=>absurd hk (by simp [SetTable.fresh]),rfl,fun j hj=>by simp [SetTable.fresh] at hj,by simp [SetTable.fresh]⟩,.inl rfl,rfl,fun j e he=>by simp [Con,SetTable.fresh] at he,rfl,.inl (by simp),by simp,List.nodup_nil,⟨[],rfl,fun p hp=>by simp at hp,.refl _⟩,fun b o e=>Heap.get?_push_of_some _ (Heap.get?_push_of_some _ e)⟩
    ·intro s' mv T;obtain⟨h',g',d',tk',os'⟩:=s';have eg:g'=s.gens:=mv.gens;have ed:d'=s.drawn:=mv.drawn;have eo:os'=s.os:=mv.os;subst eg ed eo;show wpAny _ _ _ _ _ _;refine wpAny_pure ?_;show wpAny _ _ (ret Value.none) _ _ _;refine wpAny_pure ⟨rfl,h',tk',rfl,T,fun b o hb e=>?_⟩;refine mv.heap b o ?_ (Heap.get?_push_of_some _ (Heap.get?_push_of_some _ e));simp only[List.mem_cons,List.mem_singleton,List.not_mem_nil,or_false,not_or];exact⟨Nat.ne_of_lt hb,by rw[sz];exact Nat.ne_of_lt (Nat.lt_succ_of_lt hb)⟩
   ·cases r₂ with
    |error e=>exact hr₂
    |ok fl₂=>
     cases fl₂ with
     |ret r=>
      obtain⟨rfl,h',tk,rfl,⟨es,ep,t,T⟩,k⟩:=hr₂
      repeat (any_goals (first|assumption|wp_step))
      exact h h' tk es ep t T k
     |_=>exact hr₂.elim
  |_=>exact hr.elim
end
end ST
namespace ST
open PySem PyProof.Rows
theorem zjr:entryFor table "set.__eq__"=some Builtin.«frozenset.__eq__»:=entryFor_alias (id':="frozenset.__eq__") (by kernel_rfl) rfl (by decide +kernel) (by kernel_rfl)
section
variable {prog:Program}{w:World}{K:Type} [DecidableEq K] {k:EK prog w K}{A:Around}{E:Value->Shared->Prop}{s:Shared}{S S':Addr}{h0 h0':Heap}{L L':List K}{es es':Array (Int×Value)}{ep ep':Nat}{t t':SetTable}{lb lb':Bool}
theorem zcE (T:EAt k lb h0 s.heap S L es ep t){Q:(Array (Int×Value)×Nat×SetTable)->Shared->Prop}(h:Q (es,ep,t) s):wpAny (model prog w) A (setState S) Q E s:=by
 obtain⟨o,ho,ex,hd⟩:=T.get;exact wpAny_setState_of ho hd (zdP T.ok T.sz) h
theorem zfk (T:EAt k lb h0 s.heap S L es ep t){Q:Array (Int×Value)->Shared->Prop}(h:Q es s):wpAny (model prog w) A (setEntries S) Q E s:=by
 unfold setEntries;exact wpAny_bind (zcE T (wpAny_pure h))
theorem zdE (T:EAt k lb h0 s.heap S L es ep t){Q:Nat->Shared->Prop}(h:Q es.size s):wpAny (model prog w) A (Builtin.Frozenset.sizeOf S) Q E s:=by
 unfold Builtin.Frozenset.sizeOf;exact wpAny_bind (zfk T (wpAny_pure h))
theorem zfD (T:EAt k lb h0 s.heap S L es ep t){Q:Nat->Shared->Prop}(h:Q ep s):wpAny (model prog w) A (setEpoch S) Q E s:=by
 unfold setEpoch;exact wpAny_bind (zcE T (wpAny_pure h))
theorem EAt.len (T:EAt k lb h0 s.heap S L es ep t):es.size=L.length:=by
 obtain⟨ks,k1,k2,k3⟩:=T.el;rw[<- k3.length_eq,List.length_map,<- Array.length_toList,k1,List.length_map]
theorem zit (T:EAt k (!L2.byT w) h0 s.heap S L es ep t){Q:List (Int×Value)->Shared->Prop}(h:∀ l dr,l.Perm es.toList->Q l { s with drawn:=dr }):wpAny (model prog w) A (Builtin.Frozenset.walk S) Q E s:=by
 unfold Builtin.Frozenset.walk;refine wpAny_bind ?_;unfold setWalk;refine wpAny_bind (zcE T ?_);dsimp only;unfold setsByText;refine wpAny_bind (wpAny_bind (wpAny_askSetting (wpAny_pure ?_)))
 have h':∀ l:List (Int×Value),l.Perm es.toList->Q l s:=fun l p=>by
  have:=h l s.drawn p;cases s;exact this
 show wpAny _ _ (if L2.byT w=true then _ else _) _ _ _;have hl:=T.led;cases hb:L2.byT w
 ·rw[hb] at hl;simp only[Bool.false_eq_true,if_false];show wpAny _ _ (if (!t.plain&&decide (es.size > 1))=true then _ else _) _ _ _
  split
  ·refine wpAny_bind (L2.draw_any _ _ _ _ (by simp) fun ys dr hp=>wpAny_pure (wpAny_pure (h _ dr (by simpa using hp))))
  ·show wpAny _ _ ((if (!t.led&&decide (es.size > 1))=true then _ else _) >>= _) _ _ _;rw[hl];exact wpAny_bind (wpAny_pure (wpAny_pure (wpAny_pure (h' _ (.refl _)))))
 ·simp only[if_true];refine wpAny_bind (wpAny_askSetting (wpAny_pure ?_));exact wpAny_pure (h' _ (L2.pick_perm _ _))
theorem ziL {x:K}{a:Addr}(hx:k.is s.heap x a){Q:Bool->Shared->Prop}(h:Q false s):wpAny (model prog w) A (Builtin.Frozenset.quietEq (.ref a)) Q E s:=by
 obtain⟨it,o,ho,hc,_⟩:=k.typ hx;have hT:s.TypeIs (.ref a) "tuple":=⟨o,ho,hc⟩;unfold Builtin.Frozenset.quietEq;exact wpAny_bind (wpAny_specialOf hT F.slot_tuple_eq.lookup (wpAny_pure h))
theorem EAt.els (T:EAt k lb h0 s.heap S L es ep t):∀ e∈es.toList,∃ y b,e=(k.hash y,.ref b)/\k.is s.heap y b/\y∈L:=fun e he=>by
 obtain⟨i,hi⟩:=List.getElem?_of_mem he;rw[Array.getElem?_toList] at hi;exact T.at hi
theorem zfK (T:EAt k (!L2.byT w) h0 s.heap S L es ep t)(T':EAt k lb' h0' s.heap S' L' es' ep' t'){Q:List (Int×Value)->Shared->Prop}(h:∀ l dr,l.Perm es.toList->Q l { s with drawn:=dr }) :
  wpAny (model prog w) A (Builtin.Frozenset.walkUnseen S S') Q E s:=by
 unfold Builtin.Frozenset.walkUnseen;refine wpAny_bind (zfk T ?_);refine wpAny_bind (zfk T' ?_);refine wpAny_bind (wpAny_forIn_list _ (fun rest r s'=>r.1=none/\s'=s/\∀ e∈rest,∃ y b,e.2=.ref b/\k.is s.heap y b) _ ?_ ?_ _ _ ⟨rfl,rfl,fun e he=>?_⟩)
 ·rintro⟨hh,v⟩ rest r s' ⟨hr,rfl,hall⟩;obtain⟨y,b,e,hy⟩:=hall _ List.mem_cons_self;dsimp only at e;subst e;dsimp only;refine wpAny_bind (ziL hy ?_);simp only[Bool.not_false,if_true];refine wpAny_bind (zit T fun l dr p=>?_);exact wpAny_pure (wpAny_pure (h l dr p))
 ·rintro⟨r1,r2⟩ s' ⟨hr,rfl,_⟩;simp only at hr;subst hr;refine wpAny_pure ?_;have:=h es.toList s'.drawn (.refl _);cases s';exact this
 ·rcases List.mem_append.mp he with z|z
  ·obtain⟨y,b,rfl,h2,_⟩:=T.els e z;exact⟨y,b,rfl,h2⟩
  ·obtain⟨y,b,rfl,h2,_⟩:=T'.els e z;exact⟨y,b,rfl,h2⟩
theorem zlH (T:EAt k lb h0 s.heap S L es ep t){x:K}{a:Addr}(hx:k.is s.heap x a)(hr:k.room A){Q:Option Nat->Shared->Prop}(h:∀ i,i.isSome=decide (x∈L)->Q i s):wpAny (model prog w) A (setFind S (.ref a) (k.hash x)) Q E s:=by
 unfold setFind setFindIn;refine wpAny_bind (zcE T ?_);dsimp only;rw[if_neg (by unfold byScan Value.scannable;simp)];refine wpAny_bind (zea T hx hr (fun i hi hm=>?_) fun n hn _ _ _=>?_)
 ·exact wpAny_pure (h i (by rw[hi rfl,decide_eq_true hm]))
 ·exact wpAny_pure (h none (by rw[decide_eq_false hn];rfl))
theorem zfO (T:EAt k (!L2.byT w) h0 s.heap S L es ep t)(T':EAt k lb' h0' s.heap S' L' es' ep' t')(hr:k.room A)(id:String)(hz:es.size=es'.size){Q:Bool->Shared->Prop}(h:∀ dr,Q (L.all fun x=>decide (x∈L')) { s with drawn:=dr }) :
  wpAny (model prog w) A (Builtin.Frozenset.subsetOf id S S') Q E s:=by
 unfold Builtin.Frozenset.subsetOf;refine wpAny_bind (zdE T (wpAny_bind (zdE T' ?_)));rw[if_neg (by omega)];refine wpAny_bind (zfD T ?_);refine wpAny_bind (zfK T T' fun l dr p=>?_);obtain⟨ks,k1,k2,k3⟩:=T.el;rw[k1] at p;obtain⟨kl,rfl,p2⟩:=zgY p _ rfl;have mem:∀ q∈kl,k.is s.heap q.1 q.2:=fun q hq=>T.is (k2 q (p2.mem_iff.mp hq))
 have all:∀ b:Bool,b=kl.all (fun q=>decide (q.1∈L'))->b=L.all fun x=>decide (x∈L'):=fun b e=>by
  rw[e,Bool.eq_iff_iff,List.all_eq_true,List.all_eq_true];constructor
  ·intro f x hx;obtain⟨q,hq,rfl⟩:=List.mem_map.mp (k3.mem_iff.mpr hx);exact f q (p2.mem_iff.mpr hq)
  ·intro f q hq;exact f q.1 (k3.mem_iff.mp (List.mem_map.mpr ⟨q,p2.mem_iff.mp hq,rfl⟩))
 refine wpAny_bind (wpAny_forIn_list _ (fun rest r s'=>r.1=none/\s'={ s with drawn:=dr }/\∃ kr:List (K×Addr),rest=kr.map (fun p=>(k.hash p.1,Value.ref p.2))/\(∀ q∈kr,k.is s.heap q.1 q.2)/\kl.all (fun q=>decide (q.1∈L'))=kr.all (fun q=>decide (q.1∈L'))) _ ?_ ?_ _ _ ⟨rfl,rfl,kl,rfl,mem,rfl⟩)
 ·rintro⟨hh,v⟩ rest r s' ⟨hr',rfl,kr,e,hall,e2⟩
  cases kr with
  |nil=>cases e
  |cons q kr=>
   obtain⟨y,b⟩:=q;cases e;dsimp only;refine wpAny_bind (wpAny_holding (zlH (s:={ s with drawn:=dr }) T' (hall _ List.mem_cons_self) hr fun i hi=>?_))
   cases i with
   |none=>
    simp only[Option.isNone_none,if_true];refine wpAny_pure (wpAny_pure ?_);have:false=L.all fun x=>decide (x∈L'):=all _ (by rw[e2,List.all_cons,<- hi];rfl);rw[this];exact h dr
   |some i=>
    simp only[Option.isNone_some,Bool.false_eq_true,if_false];unfold Builtin.Frozenset.unchanged;refine wpAny_bind (wpAny_bind (zfD (s:={ s with drawn:=dr }) T ?_));rw[if_neg (by simp)];refine wpAny_pure (wpAny_pure ⟨rfl,rfl,kr,rfl,fun q hq=>hall q (List.mem_cons_of_mem _ hq),?_⟩);rw[e2,List.all_cons,<- hi];rfl
 ·rintro⟨r1,r2⟩ s' ⟨hr',rfl,kr,e,hall,e2⟩;simp only at hr';subst hr';have:=List.map_eq_nil_iff.mp e.symm;subst this;refine wpAny_pure ?_;have:true=L.all fun x=>decide (x∈L'):=all _ (by rw[e2];rfl);rw[this];exact h dr
end
end ST
namespace ST
open PySem PyProof.Rows
def alikeL {K:Type} [DecidableEq K] (xs ys:List K):Bool:=(xs.all fun x=>decide (x∈ys))&&ys.all fun y=>decide (y∈xs)
theorem zjI {K:Type} [DecidableEq K] {L L':List K}(n:L.Nodup)(n':L'.Nodup):(L.length==L'.length&&L.all fun x=>decide (x∈L'))=alikeL L L':=by
 rw[Bool.eq_iff_iff];unfold alikeL;simp only[Bool.and_eq_true,beq_iff_eq,List.all_eq_true,decide_eq_true_eq];constructor
 ·rintro⟨h1,h2⟩;refine⟨h2,fun y hy=>Classical.byContradiction fun z=>?_⟩
  have:=(List.nodup_cons.mpr ⟨z,n⟩).length_le_of_subset (l₂:=L') fun x hx=>by
   rcases List.mem_cons.mp hx with e|e
   ·rw[e];exact hy
   ·exact h2 x e
  rw[List.length_cons] at this;omega
 ·rintro⟨h1,h2⟩;exact⟨Nat.le_antisymm (n.length_le_of_subset fun x=>h1 x) (n'.length_le_of_subset fun x=>h2 x),h1⟩
theorem alike_ded {K:Type} [DecidableEq K] (xs ys:List K):alikeL (dedk xs) (dedk ys)=alikeL xs ys:=by
 rw[Bool.eq_iff_iff];unfold alikeL;simp only[Bool.and_eq_true,List.all_eq_true,decide_eq_true_eq,zjw]
theorem ziF (a b:Value):Builtin.Frozenset.slot1 "__eq__" ⟨[a,b],[]⟩=pure (a,b):=rfl
section
variable {prog:Program}{w:World}{K:Type} [DecidableEq K] {k:EK prog w K}{A:Around}{E:Value->Shared->Prop}{s:Shared}{S S':Addr}{h0 h0':Heap}{L L':List K}{es es':Array (Int×Value)}{ep ep':Nat}{t t':SetTable}{lb lb':Bool}
theorem eq_sets (T:EAt k (!L2.byT w) h0 s.heap S L es ep t)(T':EAt k lb' h0' s.heap S' L' es' ep' t')(hu:A.units<cLine)(hr:k.room A.in1){Q:Value->Shared->Prop}(h:∀ dr,Q (.bool (alikeL L L')) { s with drawn:=dr }) :
  wpAny (model prog w) A (compareOp .Eq (.ref S) (.ref S')) Q E s:=by
 obtain⟨o,ho,⟨oc,_⟩,hd⟩:=T.get;obtain⟨o',ho',⟨oc',_⟩,hd'⟩:=T'.get;have ty:s.TypeIs (.ref S) "set":=⟨o,ho,oc⟩;have ty':s.TypeIs (.ref S') "set":=⟨o',ho',oc'⟩;refine wpAny_richCompare_same_room (op:=.Eq) ty ty' F.slot_set_eq (wpAny_call_entry F.slot_set_eq ty zjr ?_ (F.args_set_eq_2 _ _)) hu;show wpAny _ _ (Builtin.Frozenset.slot1 "__eq__" ⟨[.ref S,.ref S'],[]⟩ >>= _) _ _ _;refine wpAny_bind (wpAny_of_eq (ziF _ _) ?_);dsimp only;unfold Builtin.Frozenset.isAnySet;refine wpAny_bind (wpAny_bind (wpAny_isInstance ty' PySem.sub_set_self ?_));refine wpAny_pure ?_;simp only[Bool.not_true,Bool.false_eq_true,if_false];refine wpAny_bind (wpAny_pure ?_);refine wpAny_bind (wpAny_pure ?_);refine wpAny_bind (zdE T ?_);refine wpAny_bind (zdE T' ?_);refine wpAny_bind ?_;have al:=zjI T.nd T'.nd;rw[<- T.len,<- T'.len] at al;by_cases hz:es.size=es'.size
 ·rw[if_neg (by simp [hz])];refine wpAny_bind (wpAny_bind (wpAny_isInstance ty F.sub_set_frozenset (wpAny_pure ?_)));simp only[Bool.false_eq_true,if_false];refine zfO T T' hr _ hz fun dr=>wpAny_pure ⟨_,rfl,(fun e=>nomatch e),?_⟩;rw[hz] at al;simp only[beq_self_eq_true,Bool.true_and] at al;rw[al];exact h dr
 ·rw[if_pos (by simp [hz])];refine wpAny_pure (wpAny_pure ⟨_,rfl,(fun e=>nomatch e),?_⟩);have e:(es.size==es'.size)=false:=by simp [hz]
  rw[e] at al;simp only[Bool.false_and] at al;rw[al];have:=h s.drawn;cases s;exact this
end
end ST
namespace ST
open PySem
inductive Fl where
 |no
 |num (i:Int)
 |txt (z:Str)
 |box (i:Int)
 deriving DecidableEq
def FlAt (h:Heap):Fl->Value->Prop
 |.no,v=>v=.none
 |.num i,v=>∃ t,v=.int i t
 |.txt z,v=>∃ t,v=.str z t
 |.box i,v=>∃ a t,v=.ref a/\h.IsTuple a #[.int i t]
def FlsAt (h:Heap)(l:List Fl)(vs:List Value):Prop:=vs.length=l.length/\∀(i:Nat) f v,l[i]?=some f->vs[i]?=some v->FlAt h f v
def TpAt (h:Heap)(l:List Fl)(a:Addr):Prop:=∃ it,h.IsTuple a it/\FlsAt h l it.toList
theorem zbW {h:Heap}{a:Addr}{x y:Array Value}(p:h.IsTuple a x)(q:h.IsTuple a y):x=y:=by
 obtain⟨o,e,_,n,d⟩:=p;obtain⟨o',e',_,n',d'⟩:=q;rw[e] at e';cases e';rw[d] at d';cases d';rfl
theorem zhJ {h:Heap}{f g:Fl}{v:Value}(p:FlAt h f v)(q:FlAt h g v):f=g:=by
 cases f<;>cases g<;>simp only[FlAt] at p q
 case num.num i j=>obtain⟨t,rfl⟩:=p;obtain⟨u,e⟩:=q;cases e;rfl
 case txt.txt i j=>obtain⟨t,rfl⟩:=p;obtain⟨u,e⟩:=q;cases e;rfl
 case box.box i j=>
  obtain⟨a,t,rfl,x⟩:=p;obtain⟨b,u,e,y⟩:=q;cases e;have:=zbW x y;cases this;rfl
 case no.no=>rfl
 all_goals exfalso
 all_goals (first|(subst p;simp at q)|(obtain⟨t,rfl⟩:=p;simp at q)|(obtain⟨a,t,rfl,_⟩:=p;simp at q))
theorem zjO {h:Heap}{a:Addr}{x y:List Fl}(p:TpAt h x a)(q:TpAt h y a):x=y:=by
 obtain⟨it,p1,p2,p3⟩:=p;obtain⟨it',q1,q2,q3⟩:=q;cases zbW p1 q1;refine List.ext_getElem (by omega) fun i h1 h2=>?_;have hv:it.toList[i]?=some (it.toList[i]'(by omega)):=List.getElem?_eq_getElem _;exact zhJ (p3 i _ _ (List.getElem?_eq_getElem h1) hv) (q3 i _ _ (List.getElem?_eq_getElem h2) hv)
theorem zcK {h h':Heap}{a:Addr}{x:Array Value}(m:∀ b o it n,h.get? b=some o->o.data=.seq it n->h'.get? b=some o)(p:h.IsTuple a x):h'.IsTuple a x:=by
 obtain⟨o,e,c,n,d⟩:=p;exact⟨o,m _ _ _ _ e d,c,n,d⟩
theorem zjq {h h':Heap}(m:∀ b o it n,h.get? b=some o->o.data=.seq it n->h'.get? b=some o){f:Fl}{v:Value}(p:FlAt h f v):FlAt h' f v:=by
 cases f<;>simp only[FlAt] at p ⊢
 case box=>obtain⟨a,t,e,x⟩:=p;exact⟨a,t,e,zcK m x⟩
 all_goals exact p
theorem ziC {h h':Heap}(m:∀ b o it n,h.get? b=some o->o.data=.seq it n->h'.get? b=some o){l:List Fl}{a:Addr}(p:TpAt h l a):TpAt h' l a:=by
 obtain⟨it,p1,p2,p3⟩:=p;exact⟨it,zcK m p1,p2,fun i f v e1 e2=>zjq m (p3 i f v e1 e2)⟩
def HashAt (prog:Program)(w:World)(h:Heap)(A:Around)(v:Value)(x:Int):Prop:=
 ∀(E:Value->Shared->Prop)(s:Shared)(Q:Int->Shared->Prop),s.heap=h->(∀ tk,s.toks<=tk->Q x { s with toks:=tk })->wpAny (model prog w) A (pyHash v) Q E s
section
variable {prog:Program}{w:World}
theorem zet {h:Heap}{A:Around}{E:Value->Shared->Prop}:∀(vs:List Value)(xs:List Int)(s:Shared)(b:Array Int)(Q:Array Int->Shared->Prop),vs.length=xs.length->(∀(i:Nat) v x,vs[i]?=some v->xs[i]?=some x->HashAt prog w h A v x)->s.heap=h ->
  (∀ tk b',s.toks<=tk->b'.toList=b.toList++xs->Q b' { s with toks:=tk }) ->
  wpAny (model prog w) A (forIn vs b fun x r=>do let h <- pyHash x;pure PUnit.unit;pure (ForInStep.yield (r.push h))) Q E s
 |[],[],s,b,Q,_,_,hs,hq=>wpAny_pure (by have:=hq s.toks b (Nat.le_refl _) (by simp);cases s;exact this)
 |[],_::_,_,_,_,hl,_,_,_=>by cases hl
 |_::_,[],_,_,_,hl,_,_,_=>by cases hl
 |v::vs,x::xs,s,b,Q,hl,ha,hs,hq=>by
  rw[List.forIn_cons];refine wpAny_bind (wpAny_bind (ha 0 v x rfl rfl _ _ _ hs fun tk htk=>?_));refine wpAny_bind (wpAny_pure (wpAny_pure ?_));refine zet vs xs _ _ Q (by simpa using hl) (fun i v x e1 e2=>ha (i+1) v x (by simpa using e1) (by simpa using e2)) hs fun tk' b' h1 h2=>?_;exact hq tk' b' (Nat.le_trans htk h1) (by rw[h2];simp)
theorem HashAt.tuple {h:Heap}{A:Around}{a:Addr}{it:Array Value}{xs:List Int}(hu:A.units<cLine)(p:h.IsTuple a it)(hl:it.toList.length=xs.length)(ha:∀(i:Nat) v x,it.toList[i]?=some v->xs[i]?=some x->HashAt prog w h A.in1 v x):HashAt prog w h A (.ref a) (reduceHash (Builtin.Tuple.tupleHashOf xs)):=by
 intro E s Q hs hq;subst hs;obtain⟨o,e,c,n,d⟩:=p;refine W.pyHash_slot (T:="tuple") ⟨_,e,c⟩ F.slot_tuple_hash F.entry_tuple_hash (F.args_tuple_hash_1 _) (beq_builtin_none _) (.inr hu) ?_;show wpAny _ _ (Builtin.Tuple.tupleItemsOf (.ref a) >>= _) _ _ s;refine wpAny_bind (wpAny_tupleItemsOf e d ?_);refine wpAny_bind ?_;rw[<- Array.forIn_toList];refine zet it.toList xs s #[] _ hl ha rfl fun tk b htk hb=>?_;show wpAny _ _ (retInt (Builtin.Tuple.tupleHashOf b.toList)) _ _ _;rw[hb];exact wpAny_bind (wpAny_mkInt (wpAny_pure ⟨_,_,rfl,hq _ (Nat.le_succ_of_le htk)⟩))
def flH (w:World):Fl->Int
 |.no=>W.hashW w.params .none
 |.num i=>hashInt i
 |.txt z=>hashStr w z
 |.box i=>reduceHash (Builtin.Tuple.tupleHashOf [hashInt i])
def tpH (w:World)(l:List Fl):Int:=reduceHash (Builtin.Tuple.tupleHashOf (l.map (flH w)))
theorem zlG {h:Heap}{A:Around}{f:Fl}{v:Value}(hu:A.units+1<cLine)(p:FlAt h f v):HashAt prog w h A v (flH w f):=by
 cases f<;>simp only[FlAt] at p
 case no=>
  subst p;intro E s Q hs hq;exact W.pyHash_slot (T:="NoneType") rfl F.slot_NoneType_hash F.entry_NoneType_hash (F.args_NoneType_hash_1 _) (beq_builtin_none _) (.inr (by omega)) (wpAny_bind (wpAny_pure (wpAny_bind (wpAny_mkInt (wpAny_pure ⟨_,_,rfl,hq _ (Nat.le_succ _)⟩)))))
 case num i=>obtain⟨t,rfl⟩:=p;exact fun E s Q hs hq=>wpAny_pyHash_int (hq _ (Nat.le_succ _))
 case txt i=>obtain⟨t,rfl⟩:=p;exact fun E s Q hs hq=>wpAny_pyHash_str (hq _ (Nat.le_succ _))
 case box i=>
  obtain⟨a,t,rfl,x⟩:=p;refine HashAt.tuple (by omega) x rfl fun j v y e1 e2=>?_
  cases j with
  |zero=>cases e1;cases e2;exact fun E s Q hs hq=>wpAny_pyHash_int (hq _ (Nat.le_succ _))
  |succ j=>simp at e1
theorem zkK {h:Heap}{A:Around}{l:List Fl}{a:Addr}(hu:A.units+2<cLine)(p:TpAt h l a):HashAt prog w h A (.ref a) (tpH w l):=by
 obtain⟨it,p1,p2,p3⟩:=p;refine HashAt.tuple (by omega) p1 (by rw[p2,List.length_map]) fun i v x e1 e2=>?_;rw[List.getElem?_map,Option.map_eq_some_iff] at e2;obtain⟨f,e3,rfl⟩:=e2;exact zlG (by show A.units+1+1<_;omega) (p3 i f v e3 e1)
theorem zqo {A:Around}{s:Shared}{f g:Fl}{u v:Value}(hu:A.units+1<cLine)(p:FlAt s.heap f u)(q:FlAt s.heap g v):SeqAt.EqAt A s u v (decide (f=g)):=by
 have hu':A.units<cLine:=by omega
 cases f<;>cases g<;>simp only[FlAt] at p q
 case no.no=>subst p q;exact SeqAt.EqAt.same _
 case no.num=>subst p;obtain⟨t,rfl⟩:=q;exact SeqAt.EqAt.none_int _ _
 case no.txt=>subst p;obtain⟨t,rfl⟩:=q;exact SeqAt.EqAt.none_str _ _
 case no.box=>subst p;obtain⟨a,t,rfl,x⟩:=q;exact SeqAt.EqAt.none_tuple x hu'
 case num.no=>subst q;obtain⟨t,rfl⟩:=p;exact SeqAt.EqAt.int_none _ _
 case num.num i j=>
  obtain⟨t,rfl⟩:=p;obtain⟨t',rfl⟩:=q;have e:decide (Fl.num i=Fl.num j)=(i==j):=by rw[Bool.eq_iff_iff];simp
  rw[e];exact SeqAt.EqAt.int_int _ _ _ _
 case num.txt=>obtain⟨t,rfl⟩:=p;obtain⟨t',rfl⟩:=q;exact SeqAt.EqAt.int_str _ _ _ _
 case num.box=>obtain⟨t,rfl⟩:=p;obtain⟨a,t,rfl,x⟩:=q;exact SeqAt.EqAt.int_tuple _ _ x hu'
 case txt.no=>subst q;obtain⟨t,rfl⟩:=p;exact SeqAt.EqAt.str_none _ _
 case txt.num=>obtain⟨t,rfl⟩:=p;obtain⟨t',rfl⟩:=q;exact SeqAt.EqAt.str_int _ _ _ _
 case txt.txt i j=>
  obtain⟨t,rfl⟩:=p;obtain⟨t',rfl⟩:=q;have e:decide (Fl.txt i=Fl.txt j)=(i==j):=by rw[Bool.eq_iff_iff];simp
  rw[e];exact SeqAt.EqAt.str_str _ _ _ _
 case txt.box=>obtain⟨t,rfl⟩:=p;obtain⟨a,t,rfl,x⟩:=q;exact SeqAt.EqAt.str_tuple _ _ x hu'
 case box.no=>subst q;obtain⟨a,t,rfl,x⟩:=p;exact SeqAt.EqAt.tuple_none x hu'
 case box.num=>obtain⟨a,t,rfl,x⟩:=p;obtain⟨t',rfl⟩:=q;exact SeqAt.EqAt.tuple_int _ _ x hu'
 case box.txt=>obtain⟨a,t,rfl,x⟩:=p;obtain⟨t',rfl⟩:=q;exact SeqAt.EqAt.tuple_str _ _ x hu'
 case box.box i j=>
  obtain⟨a,t,rfl,x⟩:=p;obtain⟨b,u,rfl,y⟩:=q;have e:decide (Fl.box i=Fl.box j)=(i==j):=by rw[Bool.eq_iff_iff];simp
  rw[e];by_cases hab:a=b
  ·subst hab;cases zbW x y;rw[beq_self_eq_true];exact SeqAt.EqAt.same _
  ·refine SeqAt.EqAt.of_refs hab ?_;have z:=SeqAt.RcAt.tuples (A:=A) (s:=s) (e:=fun _=>i==j) x y hu' fun k h1 h2=>?_
   ·simpa using z
   ·have hk:k=0:=by simp at h1;exact h1
    subst hk;exact SeqAt.EqAt.int_int _ _ _ _
theorem zpD {A:Around}{s:Shared}{x y:List Fl}{a b:Addr}(hu:A.units+2<cLine)(p:TpAt s.heap x a)(q:TpAt s.heap y b):SeqAt.EqAt A s (.ref a) (.ref b) (decide (x=y)):=by
 by_cases hab:a=b
 ·subst hab;rw[decide_eq_true (zjO p q)];exact SeqAt.EqAt.same _
 obtain⟨it,p1,p2,p3⟩:=p;obtain⟨it',q1,q2,q3⟩:=q;refine SeqAt.EqAt.of_refs hab ?_;have l1:it.size=x.length:=by rw[<- p2,Array.length_toList]
 have l2:it'.size=y.length:=by rw[<- q2,Array.length_toList]
 have z:=SeqAt.RcAt.tuples (A:=A) (s:=s) (e:=fun i=>decide (x[i]?=y[i]?)) p1 q1 (by omega) fun k h1 h2=>?_
 ·have e:((List.range (min it.size it'.size)).all (fun i=>decide (x[i]?=y[i]?))&&it.size==it'.size)=decide (x=y):=by
   rw[Bool.eq_iff_iff];simp only[Bool.and_eq_true,List.all_eq_true,List.mem_range,decide_eq_true_eq,beq_iff_eq];constructor
   ·rintro⟨h1,h2⟩;refine List.ext_getElem? fun i=>?_;rcases Nat.lt_or_ge i x.length with hi|hi
    ·exact h1 i (by omega)
    ·rw[List.getElem?_eq_none hi,List.getElem?_eq_none (by omega)]
   ·rintro rfl;exact⟨fun _ _=>rfl,by omega⟩
  rw[e] at z;exact z
 ·have e1:x[k]?=some (x[k]'(by omega)):=List.getElem?_eq_getElem _;have e2:y[k]?=some (y[k]'(by omega)):=List.getElem?_eq_getElem _;have f1:=p3 k _ it[k] e1 (by simp [h1]);have f2:=q3 k _ it'[k] e2 (by simp [h2]);have:=zqo (A:=A.in1) (by show A.units+1+1<_;omega) f1 f2;rw[e1,e2];simpa using this
end
end ST
namespace ST
open PySem
section
variable {prog:Program}{w:World}{A:Around}{E:Value->Shared->Prop}{s:Shared}
theorem zfv (n:Nat){a:Addr}{it:Array Value}(p:s.heap.IsTuple a it)(hi:∀ v∈it.toList,∀ Q:Bool->Shared->Prop,Q true s->wpAny (model prog w) A (eqIsQuiet n v) Q E s){Q:Bool->Shared->Prop}(h:Q true s):wpAny (model prog w) A (eqIsQuiet (n+1) (.ref a)) Q E s:=by
 obtain⟨o,ho,hc,nn,hd⟩:=p;have hT:s.TypeIs (.ref a) "tuple":=⟨o,ho,hc⟩;unfold eqIsQuiet;refine wpAny_bind (wpAny_specialOf hT F.slot_tuple_eq.lookup ?_);show wpAny _ _ (isInstance (.ref a) (.type "tuple") >>= _) _ _ s;refine wpAny_bind (wpAny_isInstance hT isSubtype_tuple_tuple ?_);simp only[Bool.not_true,Bool.false_eq_true,if_false];refine wpAny_bind (wpAny_seqItems ho hd ?_);refine wpAny_bind ?_;show wpAny _ _ (forIn it _ _) _ _ s;rw[<- Array.forIn_toList];refine wpAny_forIn_list _ (fun rest r s'=>r.1=none/\s'=s/\∀ v∈rest,v∈it.toList) _ ?_ ?_ _ _ ⟨rfl,rfl,fun _ h=>h⟩
 ·rintro v rest r s' ⟨hr,rfl,hall⟩;refine wpAny_bind (hi v (hall v List.mem_cons_self) _ ?_);simp only[Bool.not_true,Bool.false_eq_true,if_false];exact wpAny_pure ⟨rfl,rfl,fun u hu'=>hall u (List.mem_cons_of_mem _ hu')⟩
 ·rintro⟨r1,r2⟩ s' ⟨hr,rfl,_⟩;simp only at hr;subst hr;exact wpAny_pure h
theorem zks (n:Nat){a:Addr}{it:Array Value}(p:s.heap.IsTuple a it)(hi:∀ v∈it.toList,∀ Q:Bool->Shared->Prop,Q false s->wpAny (model prog w) A (ofAClassStatement n v) Q E s){Q:Bool->Shared->Prop}(h:Q false s):wpAny (model prog w) A (ofAClassStatement (n+1) (.ref a)) Q E s:=by
 obtain⟨o,ho,hc,nn,hd⟩:=p;have hT:s.TypeIs (.ref a) "tuple":=⟨o,ho,hc⟩;unfold ofAClassStatement;refine wpAny_bind (wpAny_typeOf hT ?_);dsimp only;refine wpAny_bind ?_;refine wpAny_pure ?_;simp only[Bool.not_true,Bool.false_eq_true,if_false];refine wpAny_bind (wpAny_seqItems ho hd ?_);dsimp only;refine wpAny_bind ?_;rw[<- Array.forIn_toList];refine wpAny_forIn_list _ (fun rest r s'=>r.1=none/\s'=s/\∀ v∈rest,v∈it.toList) _ ?_ ?_ _ _ ⟨rfl,rfl,fun _ h=>h⟩
 ·rintro v rest r s' ⟨hr,rfl,hall⟩;refine wpAny_bind (hi v (hall v List.mem_cons_self) _ ?_);simp only[Bool.false_eq_true,if_false];exact wpAny_pure ⟨rfl,rfl,fun u hu'=>hall u (List.mem_cons_of_mem _ hu')⟩
 ·rintro⟨r1,r2⟩ s' ⟨hr,rfl,_⟩;simp only at hr;subst hr;exact wpAny_pure h
theorem zkj (n:Nat){a:Addr}{it:Array Value}(p:s.heap.IsTuple a it)(hi:∀ v∈it.toList,∀ Q:Bool->Shared->Prop,(∀ b,Q b s)->wpAny (model prog w) A (hashByValue n v) Q E s){Q:Bool->Shared->Prop}(h:∀ b,Q b s):wpAny (model prog w) A (hashByValue (n+1) (.ref a)) Q E s:=by
 obtain⟨o,ho,hc,nn,hd⟩:=p;have hT:s.TypeIs (.ref a) "tuple":=⟨o,ho,hc⟩;unfold hashByValue;refine wpAny_bind (wpAny_specialOf hT F.slot_tuple_hash.lookup ?_);show wpAny _ _ (seqItems? (.ref a) >>= _) _ _ s;refine wpAny_bind (wpAny_seqItems ho hd ?_);refine wpAny_bind ?_;show wpAny _ _ (forIn it _ _) _ _ s;rw[<- Array.forIn_toList];refine wpAny_forIn_list _ (fun rest r s'=>r.1=none/\s'=s/\∀ v∈rest,v∈it.toList) _ ?_ ?_ _ _ ⟨rfl,rfl,fun _ h=>h⟩
 ·rintro v rest r s' ⟨hr,rfl,hall⟩;refine wpAny_bind (hi v (hall v List.mem_cons_self) _ fun b=>?_);cases b
  ·simp only[Bool.not_false,if_true];exact wpAny_pure (wpAny_pure (h _))
  ·simp only[Bool.not_true,Bool.false_eq_true,if_false];exact wpAny_pure ⟨rfl,rfl,fun u hu'=>hall u (List.mem_cons_of_mem _ hu')⟩
 ·rintro⟨r1,r2⟩ s' ⟨hr,rfl,_⟩;simp only at hr;subst hr;exact wpAny_pure (h _)
theorem zfh {h:Heap}{l:List Fl}{vs:List Value}(p:FlsAt h l vs):∀ v∈vs,∃ f,FlAt h f v:=fun v hv=>by
 obtain⟨i,hi⟩:=List.getElem?_of_mem hv
 have hl:i<vs.length:=by
  rcases Nat.lt_or_ge i vs.length with z|z
  ·exact z
  ·rw[List.getElem?_eq_none z] at hi;cases hi
 have e:l[i]?=some (l[i]'(by have:=p.1;omega)):=List.getElem?_eq_getElem _;exact⟨_,p.2 i _ v e hi⟩
theorem zjp (n:Nat){f:Fl}{v:Value}(p:FlAt s.heap f v){Q:Bool->Shared->Prop}(h:Q true s):wpAny (model prog w) A (eqIsQuiet (n+1) v) Q E s:=by
 cases f<;>simp only[FlAt] at p
 case no=>subst p;exact wpAny_pure h
 case num=>obtain⟨t,rfl⟩:=p;exact wpAny_pure h
 case txt=>obtain⟨t,rfl⟩:=p;exact wpAny_pure h
 case box=>
  obtain⟨a,t,rfl,x⟩:=p;refine zfv n x (fun v hv Q h=>?_) h;have:v=_:=List.mem_singleton.mp hv;subst this;rw[eqIsQuiet_byValue n rfl];exact wpAny_pure h
theorem zoE (n:Nat){f:Fl}{v:Value}(p:FlAt s.heap f v){Q:Bool->Shared->Prop}(h:Q false s):wpAny (model prog w) A (ofAClassStatement (n+1) v) Q E s:=by
 cases f<;>simp only[FlAt] at p
 case no=>subst p;exact wpAny_pure h
 case num=>obtain⟨t,rfl⟩:=p;exact wpAny_pure h
 case txt=>obtain⟨t,rfl⟩:=p;exact wpAny_pure h
 case box=>
  obtain⟨a,t,rfl,x⟩:=p;refine zks n x (fun v hv Q h=>?_) h;have:v=_:=List.mem_singleton.mp hv;subst this;cases n<;>exact wpAny_pure h
theorem zoD (n:Nat){f:Fl}{v:Value}(p:FlAt s.heap f v){Q:Bool->Shared->Prop}(h:∀ b,Q b s):wpAny (model prog w) A (hashByValue (n+1) v) Q E s:=by
 cases f<;>simp only[FlAt] at p
 case no=>subst p;exact wpAny_pure (h _)
 case num=>obtain⟨t,rfl⟩:=p;exact wpAny_pure (h _)
 case txt=>obtain⟨t,rfl⟩:=p;exact wpAny_pure (h _)
 case box=>
  obtain⟨a,t,rfl,x⟩:=p;refine zkj n x (fun v hv Q h=>?_) h;have:v=_:=List.mem_singleton.mp hv;subst this;cases n<;>exact wpAny_pure (h _)
end
def flK (prog:Program)(w:World)(M:List Fl->Addr->Prop):EK prog w (List Fl) where
 is:=fun h l a=>TpAt h l a/\M l a
 hash:=tpH w
 room:=fun A=>A.units+2<cLine
 inj:=fun p q=>zjO p.1 q.1
 keeps:=fun p m=>⟨ziC m p.1,p.2⟩
 typ:=fun p=>⟨_,p.1.choose_spec.1⟩
 pyHash:=fun hu p h=>zkK hu p.1 _ _ _ rfl h
 eqBool:=fun hu p q h=>zpD hu p.1 q.1 _ _ _ _ h
 quiet:=fun p h=>by
  obtain⟨⟨it,p1,p2⟩,_⟩:=p;exact zfv 7 p1 (fun v hv Q hq=>(zfh p2 v hv).elim fun f hf=>zjp 6 hf hq) h
 cls:=fun p h=>by
  obtain⟨⟨it,p1,p2⟩,_⟩:=p;exact zks 7 p1 (fun v hv Q hq=>(zfh p2 v hv).elim fun f hf=>zoE 6 hf hq) h
 hbv:=fun p h=>by
  obtain⟨⟨it,p1,p2⟩,_⟩:=p;exact zkj 7 p1 (fun v hv Q hq=>(zfh p2 v hv).elim fun f hf=>zoD 6 hf hq) h
end ST
set_option maxHeartbeats 2000000
namespace L2
open PySem PySem.Spec PyProof.Rows
open ST (Fl alikeL dedk tpH)
def pF:Fl->PV
 |.no=>.non
 |.num i=>.int i
 |.txt z=>.str z
 |.box i=>.tup [.int i]
def pFs (l:List Fl):PV:=.tup (l.map pF)
def SetF (w:World)(p:Addr)(ks:List (List Fl×Addr)):Heap->Prop:=fun h=>∃ es ep t,(∃ o,h.get? p=some o/\o.ExactSet/\o.data=.set es ep t)/\ST.Ok t/\ST.Mk t.mask/\t.place.size=es.size/\ST.Wb t es/\t.led=(!byT w)/\(es.size<=4\/t.mask=31)/\es.size<=18/\(ks.map (·.1)).Nodup/\es.toList=ks.map (fun q=>(tpH w q.1,Value.ref q.2))
theorem zoB {H:Hp}{K:Frag}{N:Addr->Prop}{f:Fl}{v:V}(h:RV K N H (pF f) v):(match f with|.no=>v=.non|.num i=>v=.int i|.txt z=>v=.str z|.box i=>∃ a,v=.ref a/\SqT K H a [.int i]):=by
 cases f
 ·cases h;rfl
 ·cases h;rfl
 ·cases h;rfl
 ·cases h with
  |tup s r=>
   cases r with
   |cons r1 r2=>
    cases r1;cases r2;exact⟨_,rfl,s⟩
theorem zeQ {H:Hp}{K:Frag}{N:Addr->Prop}:∀{xs:List PV}{vs:List V},RVs K N H xs vs->∀(i:Nat) x v,xs[i]?=some x->vs[i]?=some v->RV K N H x v
 |_,_,.nil,i,x,v,h,_=>by simp at h
 |_,_,.cons r rs,0,x,v,h,h'=>by cases h;cases h';exact r
 |_,_,.cons r rs,i+1,x,v,h,h'=>zeQ rs i x v (by simpa using h) (by simpa using h')
theorem zeP {H:Hp}{K:Frag}{N:Addr->Prop}:∀{xs:List PV}{vs:List V},RVs K N H xs vs->xs.length=vs.length
 |_,_,.nil=>rfl
 |_,_,.cons _ rs=>congrArg (·+1) (zeP rs)
section
variable {X:Cx}{pins:List (Addr×Obj)}{σ:St}{H:Hp}{s:Shared}{N:Addr->Prop}
theorem zeN (I:Inv X pins σ H s){l:List Fl}{a:Addr}(h:RV X.K N H (pFs l) (.ref a)):ST.TpAt s.heap l a:=by
 cases h with
 |@tup _ _ vs sq r=>
  obtain⟨its,rv,p,_⟩:=I.tuple sq;have ll:=zeP r;have lv:=rv.length;rw[List.length_map] at ll;refine⟨its.toArray,p,by simp;omega,fun i f v e1 e2=>?_⟩
  have hi:i<vs.length:=by
   rcases Nat.lt_or_ge i l.length with z|z
   ·omega
   ·rw[List.getElem?_eq_none z] at e1;cases e1
  have e3:vs[i]?=some vs[i]:=List.getElem?_eq_getElem _;obtain⟨u,hu,ru⟩:=rv.get e3;have e2':its[i]?=some v:=by simpa using e2
  rw[hu] at e2';cases e2';have q:=zoB (zeQ r i (pF f) vs[i] (by rw[List.getElem?_map,e1];rfl) e3);cases f
  ·dsimp only at q;rw[q] at ru;exact ru
  ·dsimp only at q;rw[q] at ru;exact ru
  ·dsimp only at q;rw[q] at ru;exact ru
  ·dsimp only at q;obtain⟨b,e,sb⟩:=q;rw[e] at ru;obtain⟨js,rj,pj,_⟩:=I.tuple sb
   cases rj with
   |cons h1 h2=>
    cases h2;obtain⟨t,rfl⟩:=h1;exact⟨b,t,ru,pj⟩
end
section
variable {X:Cx}
theorem zeF (hc:X.calm=true)(hu:X.A.units+20<cLine):CallR X (.type "set") (fun xs H Q=>∃(N:Addr->Prop)(p:Addr)(vs:List V)(ys:List (List Fl)),xs=[.ref p]/\SqL X.K H p vs/\RVs X.K N H (ys.map pFs) vs/\ys.length<=18 /\
  ∀(l:Addr)(ks:List (List Fl×Addr)),H l=none->(ks.map (·.1)).Perm (dedk ys)->(∀ q∈ks,RV X.K N H (pFs q.1) (.ref q.2))->Q (.ref l) (upd H l (.ext (SetF X.w l ks)))):=by
 intro pins s σ H xs us Q I r h;obtain⟨N,p,vs,ys,rfl,hl,hv,hz,q⟩:=h;obtain⟨u,rfl,ru⟩:=zbk r;cases ru;obtain⟨its,rv,pl,_⟩:=I.list hl;have ll:=zeP hv;have lv:=rv.length;rw[List.length_map] at ll;refine ST.set_of (k:=ST.flK X.prog X.w fun l a=>RV X.K N H (pFs l) (.ref a)) (I.ok.hd hc) pl.isList (ys:=ys) (fun i v e=>?_) (by simp;omega) hz (fun A' ha=>by show A'.units+2<cLine;omega) fun h' tk es ep t T k=>?_
 ·have e':its[i]?=some v:=by simpa using e
  have hi:i<its.length:=by
   rcases Nat.lt_or_ge i its.length with z|z
   ·exact z
   ·rw[List.getElem?_eq_none z] at e';cases e'
  have e1:vs[i]?=some (vs[i]'(by omega)):=List.getElem?_eq_getElem _;have e2:ys[i]?=some (ys[i]'(by omega)):=List.getElem?_eq_getElem _;obtain⟨u,hu,ru⟩:=rv.get e1;rw[hu] at e';cases e';have rr:=zeQ hv i (pFs ys[i]) vs[i] (by rw[List.getElem?_map,e2];rfl) e1;generalize vs[i]=x at ru rr
  cases rr with
  |@tup a _ _ sq r=>
   cases ru;exact⟨_,a,e2,rfl,zeN I (.tup sq r),.tup sq r⟩
 ·obtain⟨o,ho,_⟩:=T.get;obtain⟨ks,k1,k2,k3⟩:=T.el;have nd:(ks.map (·.1)).Nodup:=k3.nodup_iff.mpr T.nd
  exact⟨.ref _,_,I.laid (o:=.ext (SetF X.w s.heap.objs.size ks)) (t':=tk) (fun b u e=>k b u (Heap.lt_size e) e) (Nat.le_refl _) ⟨⟨es,ep,t,T.get,T.ok,T.mm,T.sz,T.wb,T.led,T.sm,T.few,nd,k1⟩,⟨o,ho⟩,
   fun h1 h2 ⟨es,ep,t,⟨o,a1,a2⟩,rest⟩ kk=>⟨es,ep,t,⟨o,kk o a1,a2⟩,rest⟩⟩,rfl,q _ ks I.fresh k3 fun q hq=>(k2 q hq).2⟩
def rEqSet (K:Frag)(w:World):R2:=fun x y H Q=>∃(N:Addr->Prop)(a b:Addr)(ks ks':List (List Fl×Addr)),x=.ref a/\y=.ref b/\H a=some (.ext (SetF w a ks))/\H b=some (.ext (SetF w b ks'))/\(∀ q∈ks,RV K N H (pFs q.1) (.ref q.2))/\(∀ q∈ks',RV K N H (pFs q.1) (.ref q.2))/\Q (.bl (alikeL (ks.map (·.1)) (ks'.map (·.1)))) H
theorem ziX (hu:X.A.units+20<cLine):OpR X (compareOp .Eq) (rEqSet X.K X.w):=by
 intro pins s σ H x y v u Q I rx ry h;obtain⟨N,a,b,ks,ks',rfl,rfl,ha,hb,m1,m2,q⟩:=h;cases rx;cases ry;obtain⟨⟨es,ep,t,a1,a2,a3,a4,a5,a6,a7,a8,a9,a10⟩,_,_⟩:=I.hok a _ ha;obtain⟨⟨es',ep',t',b1,b2,b3,b4,b5,b6,b7,b8,b9,b10⟩,_,_⟩:=I.hok b _ hb;have T:ST.EAt (ST.flK X.prog X.w fun _ _=>True) (!byT X.w) s.heap s.heap a (ks.map (·.1)) es ep t:=⟨a1,a2,a3,a4,a5,a6,a7,a8,a9,⟨ks,a10,fun p hp=>⟨zeN I (m1 p hp),trivial⟩,.refl _⟩,fun _ _ e=>e⟩;have T':ST.EAt (ST.flK X.prog X.w fun _ _=>True) (!byT X.w) s.heap s.heap b (ks'.map (·.1)) es' ep' t':=⟨b1,b2,b3,b4,b5,b6,b7,b8,b9,⟨ks',b10,fun p hp=>⟨zeN I (m2 p hp),trivial⟩,.refl _⟩,fun _ _ e=>e⟩;exact ST.eq_sets T T' (by omega) (by show X.A.units+1+2<cLine;omega) fun dr=>⟨.bl _,H,I.redrawn dr,rfl,q⟩
end
def uEqSet (ua ub:UE):UE:=fun A Q=>ua A fun x A1=>∃ ys:List (List Fl),(x=.lst (ys.map pFs)/\ys.length<=18)/\ub A1 fun y A2=>∃ zs:List (List Fl),(y=.lst (zs.map pFs)/\zs.length<=18)/\Q (.bl (alikeL ys zs)) A2
theorem zgk {L L' M M':List (List Fl)}(p:L.Perm (dedk M))(q:L'.Perm (dedk M')):alikeL L L'=alikeL M M':=by
 rw[<- ST.alike_ded M M',Bool.eq_iff_iff];unfold alikeL;simp only[Bool.and_eq_true,List.all_eq_true,decide_eq_true_eq,p.mem_iff,q.mem_iff]
section
variable {X:Cx}{K:Frag}{a b:Expr}{ua ub:UE}{p1 p2 p3 p4 pos:Pos}{k:Nat}
theorem zlR (hK:X.K=K)(hr:Room k X.A)(hc:X.calm=true)(hm2:X.mg "set"=none)(ha:PE X a (liftQ K ua))(hb:PE X b (liftQ K ub))(hg2:Gl X "set":=by rfl)(hs:starEach [a] X.env=[(false,eval a X.env)]:=by rfl)(hs':starEach [b] X.env=[(false,eval b X.env)]:=by rfl) :
  PE X (.Compare (.Call (.Name "set" p1) [a] [] p2) [.Eq] [.Call (.Name "set" p3) [b] [] p4] pos) (liftV K (uEqSet ua ub)):=by
 subst hK;have hu:X.A.units+20<cLine:=by have:=hr.un;omega
 refine(zhd (ziX hu) (zbm (zeF hc hu) hg2 hm2 PyProof.Rows.boot_set (zaf ha pa_nil hs) (by decide) (by decide) hs) (zbm (zeF hc hu) hg2 hm2 PyProof.Rows.boot_set (zaf hb pa_nil hs') (by decide) (by decide) hs') (nomark _)).mono fun σ H Q ⟨A,P,R,h,c⟩=>⟨A,_,R,h,fun x A1 v H1 p1 R1 S1 q1=>?_⟩;obtain⟨ys,⟨rfl,few⟩,p1⟩:=p1;obtain⟨a,vs,rfl,h1,h2⟩:=q1.lst R1;refine⟨AN A1,a,vs,ys,rfl,SqL.of h1,h2,few,fun l ks hl pm m1=>?_⟩;have s:=zal hl (.ext (SetF X.w l ks));have R1':=R1.same s;refine⟨A1,_,R1',p1,fun y A2 w H2 p2 R2 S2 q2=>?_⟩;obtain⟨zs,⟨rfl,few2⟩,p2⟩:=p2;obtain⟨b,vs2,rfl,f1,f2⟩:=q2.lst R2;refine⟨AN A2,b,vs2,zs,rfl,SqL.of f1,f2,few2,fun l2 ks2 hl2 pm2 m2=>?_⟩;have s2:=zal hl2 (.ext (SetF X.w l2 ks2));have st2:=Stp.same A2 s2;have m1':∀ q∈ks,RV X.K (AN A2) (upd H2 l2 (.ext (SetF X.w l2 ks2))) (pFs q.1) (.ref q.2):=fun q hq=>((((m1 q hq).imp (R1.keep (Stp.same A1 s))).imp (R1'.keep S2))).imp (R2.keep st2);have m2':∀ q∈ks2,RV X.K (AN A2) (upd H2 l2 (.ext (SetF X.w l2 ks2))) (pFs q.1) (.ref q.2):=fun q hq=>(m2 q hq).imp (R2.keep st2);have nl:¬ Mt A1 l:=fun m=>R1.new hl (R1.mt_an m);have h1l:H2 l=some (.ext (SetF X.w l ks)):=S2.fr l _ zab nl;refine⟨AN A2,l,l2,ks,ks2,rfl,rfl,s2 l _ h1l,zab,m1',m2',?_⟩;rw[zgk pm pm2];exact c _ A2 _ _ p2 (R2.same s2) (S1.trans ((Stp.same A1 s).trans (S2.trans st2))) (.bl _)
end
end L2
set_option maxHeartbeats 1000000
namespace L2
open PySem PySem.Spec PyProof.Rows
def dispB (z:Str)(ue:UE)(Q:PV->AS->Prop):AS->Prop:=fun A=>∀ B,ue ⟨B,A.rho,A.S⟩ fun x A2=>A2.rho=A.rho/\Q (.dic [(.str z,x)]) ⟨A.B,A.rho,A2.S⟩
def uDispE (i:Nat)(ue:UE):UE:=fun A Q=>∃ z,A.rho[i]?=some (some (.val (.str z)))/\dispB z ue Q A
theorem ziy {i:Nat}{ue:UE}{B:Addr->Prop}{rho:List (Option Sl)}{S:Option SSt}{QV:PV->AS->Prop}:uDispE i ue ⟨B,rho,S⟩ QV=ex1 (fun z=>rho[i]?=some (some (.val (.str z)))) (fun z=>dispB z ue QV) ⟨B,rho,S⟩:=rfl
section
variable {K:Frag}{H H1 H2:Hp}{σ:St}{A:AS}
theorem Rep.withB (R:Rep K H σ A){p:Addr}(hp:H p=none)(o:HO):Rep K (upd H p o) σ ⟨fun b=>A.B b\/b=p,A.rho,A.S⟩:=by
 have s:Same H (upd H p o):=zal hp o;have na:∀ a u,H a=some u->a≠p:=fun a u h=>zag h hp
 have kp:KeepV K (AN A) (AN ⟨fun b=>A.B b\/b=p,A.rho,A.S⟩) H (upd H p o):=⟨(zaz (K:=K) (N:=AN A) s).t,fun a u n h=>⟨fun z=>by
  rcases z with (z|z)|z
  ·exact n (.inl z)
  ·exact na a u h z
  ·exact n (.inr z),s a u h⟩⟩
 have R1:=R.same s;refine⟨R.len,fun i t h=>?_,fun a h=>?_,R.nd,fun st h=>?_,R.pk⟩
 ·obtain⟨v,e,q⟩:=R.sl i t h;refine⟨v,e,?_⟩
  cases t with
  |val x=>exact q.imp kp
  |own a c=>exact⟨q.1,fun z=>z.elim q.2.1 fun e=>q.2.2.some (by rw[e];exact hp),q.2.2.imp kp fun o=>s a o⟩
  |peek a c=>exact⟨q.1,.inl q.2.1,q.2.2.imp kp fun o=>s a o⟩
 ·rcases h with h|h
  ·exact R1.dom a h
  ·rw[h,zab];intro z;cases z
 ·obtain⟨h1,h2,h3⟩:=R1.st st h;exact⟨.inl h1,h2,h3⟩
theorem Rep.offB {rho:List (Option Sl)}{S:Option SSt}{B:Addr->Prop}{p:Addr}(R:Rep K H σ ⟨fun b=>B b\/b=p,rho,S⟩)(hB:¬ B p)(hp:H p=some (.dK []))(hd:∀ st,S=some st->st.d≠p)(hk:∀(i:Nat)(c:OC),rho[i]?≠some (some (.peek p c))) :
  Rep K (erase H p) σ ⟨B,rho,S⟩/\KeepV K (AN ⟨fun b=>B b\/b=p,rho,S⟩) (AN ⟨B,rho,S⟩) H (erase H p):=by
 have kp:KeepV K (AN ⟨fun b=>B b\/b=p,rho,S⟩) (AN ⟨B,rho,S⟩) H (erase H p):=⟨fun a vs h=>by
  rcases h with h|h
  ·refine .inl ?_;rcases h with h|⟨o,h⟩
   ·exact .inl (by rw[zai fun e=>by rw[e,hp] at h;cases h];exact h)
   ·exact .inr ⟨o,by rw[zai fun e=>by rw[e,hp] at h;cases h];exact h⟩
  ·exact .inr h,fun a o n h=>⟨fun z=>n (z.imp .inl id),by rw[zai fun e=>n (.inl (.inr e))];exact h⟩⟩
 refine⟨⟨R.len,fun i t h=>?_,fun a h=>?_,R.nd,fun st h=>?_,R.pk⟩,kp⟩
 ·obtain⟨v,e,q⟩:=R.sl i t h;refine⟨v,e,?_⟩
  cases t with
  |val x=>exact q.imp kp
  |own a c=>exact⟨q.1,fun z=>q.2.1 (.inl z),q.2.2.imp kp fun o h2=>by rw[zai fun e=>q.2.1 (.inr e)];exact h2⟩
  |peek a c=>
   have na:a≠p:=fun e=>hk i c (by rw[<- e];exact h);exact⟨q.1,q.2.1.resolve_right na,q.2.2.imp kp fun o h2=>by rw[zai na];exact h2⟩
 ·rw[zai fun e=>hB (by rw[<- e];exact h)];exact R.dom a (.inl h)
 ·obtain⟨h1,h2,h3⟩:=R.st st h;refine⟨h1.resolve_right (hd st h),?_,h3.keepF fun o u z=>by rw[zai fun e=>by rw[e,hp] at z;cases z];exact z⟩;obtain⟨t,l,w,e,r⟩:=h2.ex
  exact⟨⟨t,l,w,by rw[zai (hd st h)];exact e,r⟩,fun T o z=>⟨by
   rw[zai fun y=>by
    have q:=(h2.tb T o z).1;rw[y,hp] at q
    cases q]
   exact(h2.tb T o z).1,(h2.tb T o z).2⟩⟩
end
section
variable {X:Cx}{K:Frag}{pos npos:Pos}{e:Expr}{ue:UE}
theorem zlS (i:Nat){x:Str}(he:PE X e (liftV K ue))(hN:X.N[i]?=some x:=by rfl)(hv:Vis X.env.scope x:=by first|exact Or.inl rfl|exact Or.inr (Or.inl rfl)|exact Or.inr (Or.inr rfl))(hd:(x==("__debug__":Str))=false:=by decide)(hcd:(x==("__classdict__":Str))=false:=by decide) :
  PE X (.Dict [some (.Name x npos)] [e] pos) (liftF K (uDispE i ue)):=by
 refine(zeV (zaE (zaM hN hv hd hcd) he zeT) rfl rfl (by simp) (Nat.succ_le_succ (Nat.zero_le _))).mono fun σ H Q ⟨A,P,R,h,c⟩=>fun p hp=>?_;obtain⟨z,hz,h⟩:=h;obtain⟨v,ev,rv⟩:=R.sl i _ hz;have hv:v=.str z:=by cases rv;rfl
 subst hv;refine⟨_,ev,_,_,R.withB hp _,h _,fun r A2 v H2 q R2 S2 rv2=>?_⟩;obtain⟨B2,rho2,S0⟩:=A2;obtain⟨erho,q⟩:=q;have eB:B2=fun b=>A.B b\/b=p:=S2.b;have erho':rho2=A.rho:=erho;subst eB erho';have nB:¬ A.B p:=fun z=>R.dom p z hp
 have nst:∀ st,A.S=some st->st.d≠p:=fun st h e=>by
  obtain⟨kvs,q⟩:=(R.st st h).2.1.dk;rw[e,hp] at q;cases q
 have nOw:¬ Own A.rho p:=fun z=>R.new hp (.inr z);have hp2:H2 p=some (.dK []):=S2.fr p _ zab fun m=>m.elim nOw fun⟨st,z1,z2⟩=>nst st z1 z2
 obtain⟨R3,kp⟩:=R2.offB nB hp2 (fun st h e=>by
  obtain⟨st',e1,e2⟩:=sd_d S2.sd ⟨st,h,rfl⟩
  exact nst st' e1 (e2.trans e)) fun i c h=>by
   obtain⟨_,_,q⟩:=R.sl i _ h;exact q.2.2.some hp
 have S3:Stp A H ⟨A.B,A.rho,S0⟩ (erase H2 p):=by
  refine⟨fun a o h m=>?_,fun a h=>.inl h,rfl,fun a h=>?_,S2.sd⟩
  ·have na:a≠p:=zag h hp;rw[zai na];exact S2.fr a o (by rw[zad na];exact h) m
  ·have na:a≠p:=fun e=>h (by rw[e];exact hp);rw[zai na];exact S2.dm a (by rw[zad na];exact h)
 refine⟨hp2,[(.inr z,v)],rfl,Nat.succ_le_succ (Nat.zero_le _),?_⟩;refine c _ _ _ (erase H2 p) _ q R3 S3 ⟨p,.dic _,rfl,rfl,zaL _ _,fun b o h=>?_,[(.inr z,v)],zab,.cons (.str z) (rv2.imp kp) .nil⟩;have nb:b≠p:=fun e=>by rw[e,zaL] at h;cases h
 rw[zad nb];rw[zai nb] at h;exact h
end
end L2
namespace L2
open PySem PySem.Spec PyProof.Rows
def Itv (K:Frag)(a:Addr)(n:Nat):It:=
 ⟨fun i H=>∃ xs x,SqL K H a xs/\i<n/\xs[n-1-i]?=some x,fun i H x H'=>H'=H/\∀ xs,SqL K H a xs->xs[n-1-i]?=some x,fun i H=>n<=i⟩
theorem ziB {P:Program}{w:World}{K:Frag}{tg:Expr}(a it:Addr)(n:Nat):Turn P w K tg (Itv K a n) [it] it (fun i h=>i<=n/\h.IsRevIter it a ((n:Int)-1-i)) where
 mem:=by simp
 obj:=fun i h st b hb=>by
  have e:b=it:=by simpa using hb
  subst e;obtain⟨_,o,e,c,d⟩:=st;exact⟨o,e,fun v z=>by rw[d] at z;cases z⟩
 keep:=fun i h h' st k=>⟨st.1,st.2.at fun o e=>k it (by simp) o e⟩
 item:=by
  intro X hP hw hK hc i pins s σ H E I hf st hg;subst hP hw hK;obtain⟨xs,x,hq,hi,hx⟩:=hg;obtain⟨its,rv,p,hz⟩:=I.list hq;obtain⟨u,hu,ru⟩:=rv.get hx;obtain⟨f0,f1,f2,f3,f4,f5⟩:=hf it (by simp)
  have st2:s.heap.IsRevIter it a ((n-1-i:Nat):Int):=by
   rw[show((n-1-i:Nat):Int)=(n:Int)-1-i by omega];exact st.2
  refine wpAny_pyNext_rev_item st2 p.isList (x:=u) (by simpa using hu) fun h' st' sb=>?_;have I1:Inv X pins σ H { s with heap:=h' }:=I.turned (t':=s.toks) (fun b o hb e=>(sb.2 b hb).trans e) f0 f1 f3 f4 f5;obtain⟨o,e,c,d⟩:=id st';refine⟨u,rfl,zgb (s:={ s with heap:=h' }) e c d (by decide) ⟨x,H,I1,ru,⟨rfl,fun ys hy=>by rw[I.list_inj hy hq];exact hx⟩,⟨hi,?_⟩,fun b hb=>(hf b hb).1⟩⟩;rw[show(n:Int)-1-((i+1:Nat):Int)=((n-1-i:Nat):Int)-1 by omega];exact st'
 done:=by
  intro X hP hw hK hc i pins s σ H E I hf st hg;subst hP hw hK;obtain⟨f0,f1,f2,f3,f4,f5⟩:=hf it (by simp);have hi:i=n:=Nat.le_antisymm st.1 hg
  have st2:s.heap.IsRevIter it a (-1):=by
   rw[show(-1:Int)=(n:Int)-1-i by omega];exact st.2
  exact wpAny_pyNext_rev_end (I.ok.hd hc) st2 fun h' eb=>⟨rfl,I.turned (t':=s.toks) (fun b o hb e=>eb b o hb e) f0 f1 f3 f4 f5⟩
 self:=fun _ _ _ _ _ st h=>wpAny_pyIter_revIter st.2 h
def iRev (K:Frag)(ta:TA):TI:=fun σ H R=>ta σ H fun vs H1=>∃ l xs,vs=[.ref l]/\SqL K H1 l xs/\R (Itv K l xs.length) H1
theorem znl {X:Cx}{tg a:Expr}{ta:TA}{p pos:Pos}(hg:Gl X "reversed")(hm:X.mg "reversed"=none)(ha:PA X [a] ta)
  (hs:starEach [a] X.env=[(false,eval a X.env)]:=by rfl):PI X tg (.Call (.Name "reversed" p) [a] [] pos) (iRev X.K ta):=by
 intro pins s σ H R I h;refine Call_ (zem I hg hm PyProof.Rows.boot_reversed (PyProof.Rows.callWith_type1 (thn (ha pos pins s σ H _ I h) fun us s1 ⟨vs,H1,I1,r1,q1⟩=>?_) (by rw[hs];rfl) (by rfl)));obtain⟨l,xs,e,h1,q⟩:=q1;subst e;obtain⟨u,rfl,ru⟩:=zbk r1;cases ru;obtain⟨its,rv,p1,_⟩:=I1.list h1;have hl:=rv.length;refine PySem.call_reversed_list p1.isList ?_;have g1:(s1.heap.push (revObj l ((its.toArray.size:Int)-1))).IsRevIter s1.heap.objs.size l ((its.toArray.size:Int)-1):=⟨_,Heap.get?_push_size _ rfl,rfl,rfl⟩;refine wpAny_pyIter_revIter g1 ?_;refine⟨s1.heap.objs.size,[s1.heap.objs.size],_,_,H1,rfl,I1.kept (t':=s1.toks) fun b o e=>Heap.get?_push_of_some _ e,ziB l _ xs.length,⟨Nat.zero_le _,?_⟩,fun b hb=>?_,q⟩
 ·rw[show(xs.length:Int)-1-((0:Nat):Int)=(its.toArray.size:Int)-1 by simp;omega];exact g1
 ·have e:b=s1.heap.objs.size:=by simpa using hb
  subst e;exact I1.fpOk (Nat.le_refl _) (I1.hok.fresh (Nat.le_refl _))
def rvdK (P:List PV->(AS->Prop)->AS->Prop)(x:PV)(A1:AS):Prop:=∃ xs,x=.lst xs/\P xs.reverse (fun _=>True) A1
def uRvd (ue:UE):UI:=fun A P=>ue A fun x A1=>rvdK P x A1
theorem zmw {ue:UE}{B:Addr->Prop}{rho:List (Option Sl)}{S:Option SSt}{P:List PV->(AS->Prop)->AS->Prop}:uRvd ue ⟨B,rho,S⟩ P=ue ⟨B,rho,S⟩ fun x A1=>rvdK P x A1:=rfl
theorem zmW {α:Type}{xs:List α}{i:Nat}{x:α}(h:xs.reverse[i]?=some x):i<xs.length/\xs[xs.length-1-i]?=some x:=by
 have hi:i<xs.length:=by
  have:=List.getElem?_eq_some_iff.mp h;obtain⟨z,_⟩:=this;simpa using z
 exact⟨hi,by rw[<- List.getElem?_reverse hi];exact h⟩
section
variable {X:Cx}{K:Frag}{e tg:Expr}{pos p:Pos}{ue:UE}
theorem zof {A:AS}{H:Hp}{σ:St}{a:Addr}{xs:List PV}(R:Rep K H σ A)(h:RV K (AN A) H (.lst xs) (.ref a)):ItOk K A H (Itv K a xs.length) xs.reverse fun _=>True:=by
 have go:∀{N:Addr->Prop}{H2:Hp}{vs:List V},H2 a=some (.lst vs)->RVs K N H2 xs vs->∀ i x,xs.reverse[i]?=some x->(Itv K a xs.length).go i H2/\∀ v H',(Itv K a xs.length).yld i H2 v H'->Same H2 H'/\RV K N H' x v:=fun {N H2 vs} h1 h2 i x hx=>by
  obtain⟨hi,hy⟩:=zmW hx;obtain⟨v,hv,rv⟩:=h2.at hy;refine⟨⟨_,v,SqL.of h1,hi,hv⟩,fun v' H' y=>?_⟩;obtain⟨rfl,y⟩:=y;have:=y _ (SqL.of h1);rw[hv] at this;cases this;exact⟨Same.refl _,rv⟩
 exact {
  go:=fun σ2 A2 H2 R2 S2 _ i x hx=>by cases h.imp (R.keep S2) with|lst n h1 h2=>exact go h1 h2 i x hx
  stop:=fun σ2 A2 H2 R2 S2 _=>by show _<=_;rw[List.length_reverse];exact Nat.le_refl _
  cm:=fun H2 b=>by
   cases h.imp (R.keepC b) with
   | lst n h1 h2=>exact⟨fun i x hx=>go h1 h2 i x hx,by show _<=_;rw[List.length_reverse];exact Nat.le_refl _⟩ }
theorem zqa (hK:X.K=K)(hm:X.mg "reversed"=none)(h:PE X e (liftV K ue))(hg:Gl X "reversed":=by rfl)(hs:starEach [e] X.env=[(false,eval e X.env)]:=by rfl):PI X tg (.Call (.Name "reversed" p) [e] [] pos) (liftI K (uRvd ue)):=by
 subst hK;refine(znl hg hm (zaf h pa_nil hs) hs).mono fun σ H Q ⟨A,P,R,h,c⟩=>⟨A,_,R,h,fun x A1 v H1 q R1 S1 rv=>?_⟩;obtain⟨xs,rfl,q⟩:=q
 cases rv with
 |lst n h1 h2=>exact⟨_,_,rfl,SqL.of h1,c _ _ A1 _ H1 q R1 S1 (by have:=zof R1 (.lst n h1 h2);rw[h2.len] at this;exact this)⟩
end
open ST in
theorem zix {ua ub:UE}{B:Addr->Prop}{rho:List (Option Sl)}{S:Option SSt}{Q:PV->AS->Prop}:uEqSet ua ub ⟨B,rho,S⟩ Q=ua ⟨B,rho,S⟩ fun x A1=>∃ ys:List (List Fl),(x=.lst (ys.map pFs)/\ys.length<=18)/\ub A1 fun y A2=>∃ zs:List (List Fl),(y=.lst (zs.map pFs)/\zs.length<=18)/\Q (.bl (alikeL ys zs)) A2:=rfl
section
def Tr5 (T:PV->PV->PV->PV->PS1):Tr:=fun xs st P=>∃ x1 x2 x3 x4,xs=[.raw (.ref st.d),x1,x2,x3,x4]/\T x1 x2 x3 x4 st P
theorem Tr5.len {T:PV->PV->PV->PV->PS1}{xs:List PV}{st:SSt}{P:PV->SSt->Prop}(h:Tr5 T xs st P):xs.length=5:=by obtain⟨_,_,_,_,rfl,_⟩:=h;rfl
theorem tr5c {d p:Addr}{n:Nat}{b:Bs}{Q:PV->AS->Prop}{B:Addr->Prop}{rho:List (Option Sl)}{T:PV->PV->PV->PV->PS1}{x y z v:PV}:callS (Tr5 T) [.raw (.ref d),x,y,z,v] Q ⟨B,rho,some ⟨d,p,n,b⟩⟩=runT (T x y z v) ⟨d,p,n,b⟩ Q B rho:=by
 rw[zdi];exact propext ⟨fun⟨_,_,_,_,e,h⟩=>by cases e;exact h,fun h=>⟨_,_,_,_,rfl,h⟩⟩
end
section
theorem zma {α:Type}{k:Nat}{ix:List Nat}{A1:AS}{g:UG}{t:UT}{ue:UE}{Q:PV->AS->Prop}(l:List α)(e:α->PV)(I:List α->List PV->Option SSt->Prop)(few:l.length<=1000000)(i0:I [] [] A1.S)
  (each:∀ B d x r ys S,l=d++x::r->I d ys S->∀(Rs:PV->AS->Prop)(Rn:AS->Prop),(∀ y A4,Kp k ix A1.rho A4->I (d++[x]) (ys++[y]) A4.S->Rs y A4)->(∀ A4,Kp k ix A1.rho A4->I (d++[x]) ys A4.S->Rn A4)->g (e x) ⟨B,inn k ix A1.rho,S⟩ fun A2=>t A2 fun b A3=>cif b (fun A=>ue A Rs) Rn A3)
  (fin:∀ ys S,I l ys S->Q (.lst ys) { A1 with S:=S }):compB k ix (l.map e) A1 g t ue Q:=by
 refine⟨by rw[List.length_map];exact few,fun d ys S=>I (l.take d.length) ys S,by simpa using i0,?_,?_⟩
 ·rintro B d x r ys S e' hI;obtain⟨d1,x1,r1,e1,rfl,rfl,e2⟩:=zed e'
  have e3:l.take (d1.map e++[e x1]).length=d1++[x1]:=by
   rw[e1,List.length_append,List.length_map,List.length_singleton,<- List.singleton_append,<- List.append_assoc,List.take_left' (by simp)]
  rw[<- e2] at hI;dsimp (config:={failIfUnchanged:=false}) only;rw[e3];exact each B d1 x1 r1 ys S e1 hI (fun y A4=>Kp k ix A1.rho A4/\I (d1++[x1]) (ys++[y]) A4.S) (fun A3=>Kp k ix A1.rho A3/\I (d1++[x1]) ys A3.S) (fun y A4 k1 s1=>⟨k1,s1⟩) fun A4 k1 s1=>⟨k1,s1⟩
 ·rintro ys S hI;rw[List.length_map,List.take_length] at hI;exact fin ys S hI
end
end L2
set_option maxHeartbeats 4000000
namespace K07
open PySem L2
def wordL (B:Bs)(k:Int):List Nat:=B.x.cps.toList.take B.y.toNat++((97+(B.z+k) % 26).toNat::B.x.cps.toList.drop B.y.toNat)
def wordOf (B:Bs)(k:Int):Str:=⟨(wordL B k).toArray⟩
theorem zhu:∀ i:Fin 26,("abcdefghijklmnopqrstuvwxyz":Str).cps[i.val]?=some (97+i.val):=by decide +kernel
theorem zcU {r:Int}(h0:0<=r)(h1:r<26):("abcdefghijklmnopqrstuvwxyz":Str).cps[r.toNat]?=some ((97+r).toNat):=by
 have q:=zhu ⟨r.toNat,by omega⟩;rw[q]
 congr 1
 show 97+r.toNat=_;omega
theorem zis {B:Bs}(h:WdOk B){k:Int}:(Txt.slice B.x none (some B.y)++(⟨#[(97+(B.z+k) % 26).toNat]⟩:Str))++Txt.slice B.x (some B.y) none=wordOf B k:=by
 obtain⟨_,_,_,_,h1,h2⟩:=h;have hl:(B.x.length:Int)=(B.x.cps.toList.length:Int):=by rw[Array.length_toList];rfl
 have e1:Txt.slice B.x none (some B.y)=⟨((B.x.cps.toList.drop 0).take (B.y-0).toNat).toArray⟩:=StrLaws.sliceText_to ⟨h1,by omega⟩;have e2:Txt.slice B.x (some B.y) none=⟨((B.x.cps.toList.drop B.y.toNat).take ((B.x.cps.toList.length:Int)-B.y).toNat).toArray⟩:=StrLaws.sliceText_from ⟨h1,by omega⟩;rw[e1,e2];refine congrArg Str.mk ?_;show(((B.x.cps.toList.drop 0).take (B.y-0).toNat).toArray++#[(97+(B.z+k) % 26).toNat])++((B.x.cps.toList.drop B.y.toNat).take ((B.x.cps.toList.length:Int)-B.y).toNat).toArray=(wordL B k).toArray;have e3:(B.x.cps.toList.drop B.y.toNat).take ((B.x.cps.toList.length:Int)-B.y).toNat=B.x.cps.toList.drop B.y.toNat:=List.take_of_length_le (by rw[List.length_drop];omega);rw[e3,Int.sub_zero,List.drop_zero];apply Array.toList_inj.mp;simp [wordL]
theorem zfs {B:Bs}(h:WdOk B)(k:Int):(wordOf B k).length=B.x.length+1:=by
 show(wordL B k).toArray.size=B.x.cps.size+1;rw[List.size_toArray,wordL,List.length_append,List.length_cons,List.length_take,List.length_drop,Array.length_toList];omega
def tWord (x:PV)(st:SSt)(Q:PV->SSt->Prop):Prop:=∃ k:Int,x=.int k/\WdOk st.b/\Q (.str (wordOf st.b k)) st
theorem zkN {k:Int}{d a:Addr}{n:Nat}{b:Bs}{Q:PV->AS->Prop}{B:Addr->Prop}{rho:List (Option Sl)}:runT (tWord (.int k)) ⟨d,a,n,b⟩ Q B rho=(WdOk b/\Q (.str (wordOf b k)) ⟨B,rho,some ⟨d,a,n,b⟩⟩):=by
 unfold runT tWord;exact propext ⟨fun⟨_,e,h⟩=>by cases e;exact h,fun h=>⟨_,rfl,h⟩⟩
open PySem L2
local macro_rules|`(tactic| walk_at "") => `(tactic| try simp only [↓zkN, zpZ, endsL, zky, znk, zjm, ↓zmr, zjn, ↓ziw, zok, zol, zoj, ↓tr5c, ↓ziy, ↓zmw, ↓zix, ↓zkC, ↓zmv, ↓zpy, ↓zmu, ↓zmB, ↓zkE, ↓zmz, ↓zkB, ↓zkA, ↓zmq, ↓zpu, ↓uC_c, ↓zmE, ↓zkG, ↓zms, ↓zmG, ↓u2_c, ↓zpz, ↓zmM, ↓zpv, ↓zmD, ↓zkJ, ↓zmC, ↓zmt, ↓zkD, ↓u1_c, ↓zmK, ↓gN_c, ↓gT_c, ↓zqc, ↓zpx, ↓zmH, ↓zmx, ↓zmI, ↓zkH, ↓zkI, ↓ziz, ↓zpr, ↓ziE, ↓ziv, ↓zmL, ↓zmA, ↓zmJ, ↓zgo, ↓zkF, ↓zpw, ↓zps, ↓zpt, ↓zmy, ↓zmF, ↓zpI, ↓zmP, ↓tr1c, ↓tr2c, ↓tr3c, ↓tr4c, zpK, zqm, pv_l, pv_d, zmo, zmp, zpL, zpM, zqd, zpV, zpW, zpY, zpX, zoh, znM, zoU, zny, znz, zmY, zpH, zmX, zoG, zoF, zlK, zlJ, zlL, rl1, rl2, pk_s, zqp, zoH, zqq, zoI, exists_eq_left', zmd, zme, zqw, inn, caps, Sl.cap, stV, stPut, List.replicate, List.map_cons, List.map_nil, List.cons_append, List.nil_append, Option.join_some, Option.map_some, List.getElem?_cons_zero, List.getElem?_cons_succ, List.set_cons_zero, List.set_cons_succ, true_and, Bool.false_eq_true, Bool.not_true, Bool.not_false, Option.some.injEq, PV.bl.injEq, PV.int.injEq, PV.str.injEq, PV.lst.injEq, Sl.own.injEq, Sl.val.injEq, OC.lst.injEq, OC.dic.injEq, List.length_cons, List.length_nil, zoy, zow, zov, zox, zou, gI_i, zqi, zom, zon, zoo, zoq, zop, zor, zqe, zqg, zqf, zoi, zjl, zlz, zlA, zqh, zlC, zlB, zos, zqj, zql, zpC, zpB, zpA, at_0, at_1, at_2, at_3, Bool.false_xor, Bool.true_xor, Int.reduceBEq, Int.reduceLT, Int.reduceAdd, Nat.reduceAdd, Nat.reduceLeDiff])
structure Col where
 n:Str
 k:Str
 m:Bool
structure Tab where
 n:Str
 cs:List Col
 ks:List (List Str)
structure Pnt where
 t:Str
 cs:List Str
 g:Str
 k:List Str
def pC (c:Col):PV:=.tup [.str c.n,.str c.k,.bl c.m]
def pS (l:List Str):PV:=.tup (l.map PV.str)
def pT (t:Tab):PV:=.tup [.str t.n,.tup (t.cs.map pC),.tup (t.ks.map pS)]
def pP (p:Pnt):PV:=.tup [.str p.t,pS p.cs,.str p.g,pS p.k]
def wf (B:Bs)(i:Nat):Str:=wordOf B (i:Int)
variable {P:Program}{w:World}{K:Frag}{mg:Str->Option Value}{base:Heap}
theorem yaE:FnScope ["_law_state","_law_number","_law_letters","_law_base","_law_spot"] ["_law_state","_law_number"] (defScope zbF):=⟨rfl,rfl,rfl,by decide +kernel,rfl,by decide +kernel,by decide +kernel⟩
theorem zeZ {k:Nat}(D:Df K mg "_law_word" zbF)(B:Bt mg):Kn P w K mg base (k+1) "_law_word" (spS K false (Tr2 tWord)):=by
 refine D.okS yaE (fun _ _ _ _ _ _=>bd2 fun _ _=>rfl) (fun _ _ _=>Tr2.len) (by decide) (fun f cdv A outer s H E hr=>⟨_,(sc (zam (i:=2) yaE.nd vs)
  (sc (zam (i:=3) yaE.nd (e_st hr 0 6 (by decide) (by decide) rfl))
  (sc (zam (i:=4) yaE.nd (e_st hr 0 8 (by decide) (by decide) rfl))
  (s1 (zak (zbc rfl (qv (zbc rfl (qv (e_sl rfl (qn 3) o_no (o_so (vn 4)))) (qv (zae rfl hr (qn 2) (qv (zhO (qv (zbc rfl (qv (e_st hr 0 7 (by decide) (by decide) rfl)) (qn 1))) (qv vi))))))) (qv (e_sl rfl (qn 3) (o_so (vn 4)) o_no)))))))),fun B' xs st Q h=>?_⟩)
 obtain⟨x1,rfl,h⟩:=h;change (_:US) (endsS false Q) ⟨B',[some (.val (.raw (.ref st.d))),some (.val x1),none,none,none],some st⟩;obtain⟨k,rfl,W,h⟩:=h;obtain⟨d,a,n,D⟩:=st;have W':WdOk D:=W;obtain⟨w1,w2,w3,w4,w5,w6⟩:=id W';have hz:D.x.length<=100000:=by omega
 have r0:0<=(D.z+k) % 26:=Int.emod_nonneg _ (by decide);have r1:(D.z+k) % 26<26:=Int.emod_lt_of_pos _ (by decide);have s1:=Txt.slice_le D.x none (some D.y);have s2:=Txt.slice_le D.x (some D.y) none;walk_at "";refine⟨hz,zac _ ⟨by rw[zav];decide,_,zbV r0 (by rw[Array.getElem?_toList];exact zcU r0 r1),rfl⟩ ?_⟩;walk_at "";have n1:(⟨#[(97+(D.z+k) % 26).toNat]⟩:Str).length=1:=rfl
 have n2:(Txt.slice D.x none (some D.y)++(⟨#[(97+(D.z+k) % 26).toNat]⟩:Str)).length=(Txt.slice D.x none (some D.y)).length+1:=by
  show((Txt.slice D.x none (some D.y)).cps++#[(97+(D.z+k) % 26).toNat]).size=_;rw[Array.size_append];rfl
 refine⟨by rw[n1];omega,hz,by rw[n2];omega,?_⟩;rw[zis W'];exact h
set_option maxHeartbeats 1000000
open PySem L2
structure CoI where
 i:Nat
 k:Str
 m:Bool
structure TbI where
 n:Nat
 cs:List CoI
 ks:List (List Nat)
structure PtI where
 t:Nat
 cs:List Nat
 g:Nat
 k:List Nat
def co (f:Nat->Str)(c:CoI):Col:=⟨f c.i,c.k,c.m⟩
def tb (f:Nat->Str)(t:TbI):Tab:=⟨f t.n,t.cs.map (co f),t.ks.map fun k=>k.map f⟩
def pt (f:Nat->Str)(p:PtI):Pnt:=⟨f p.t,p.cs.map f,f p.g,p.k.map f⟩
def KOk (k:Str):Prop:=k="number"\/k="text"
def KeyOk (cs:List CoI)(key:List Nat):Prop:=(key≠[]/\key.length<=90)/\key.Nodup/\∀ i∈key,∃ c∈cs,c.i=i/\c.m=false
def TiOk (k:Nat)(t:TbI):Prop:=t.n=9+k/\(∃ a,1<=a/\a<=3/\t.cs.map CoI.i=List.range' k a)/\(∀ c∈t.cs,KOk c.k)/\t.ks.length<=2/\∀ key∈t.ks,KeyOk t.cs key
def pc (f:Nat->Str)(c:CoI):PV:=.tup [.str (f c.i),.str c.k,.bl c.m]
theorem zbR (f:Nat->Str)(t:TbI):pT (tb f t)=.tup [.str (f t.n),.tup (t.cs.map (pc f)),.tup (t.ks.map fun k=>.tup (k.map fun i=>.str (f i)))]:=by
 simp only[pT,tb,pS,List.map_map,Function.comp_def];rfl
theorem kd3 {r:Int}(h0:0<=r)(h1:r<3):∃ kd,KOk kd/\atI [PV.str "number",.str "number",.str "text"] r=some (.str kd):=by
 have:r=0\/r=1\/r=2:=by omega
 rcases this with rfl|rfl|rfl
 ·exact⟨_,.inl rfl,at_0⟩
 ·exact⟨_,.inl rfl,at_1⟩
 ·exact⟨_,.inr rfl,at_2⟩
def tTable (x:PV)(st:SSt)(Q:PV->SSt->Prop):Prop:=∃ k:Nat,x=.int k/\k<=100/\WdOk st.b/\st.n<=90000/\∀ t st',TiOk k t->Nx st 20 st'->Q (pT (tb (wf st.b) t)) st'
section
variable {P:Program}{w:World}{K:Frag}{mg:Str->Option Value}{base:Heap}
theorem znT {k a:Nat}{cs:List CoI}(hx:cs.map CoI.i=List.range' k a):((cs.filter fun c=>!c.m).map CoI.i).Nodup/\∀ i∈(cs.filter fun c=>!c.m).map CoI.i,∃ c∈cs,c.i=i/\c.m=false:=by
 refine⟨?_,fun i hi=>?_⟩
 ·have:((cs.filter fun c=>!c.m).map CoI.i).Sublist (cs.map CoI.i):=List.Sublist.map _ List.filter_sublist;exact(hx▸List.nodup_range':(cs.map CoI.i).Nodup).sublist this
 ·obtain⟨c,hc,e⟩:=List.mem_map.mp hi;have:=List.mem_filter.mp hc;exact⟨c,this.1,e,by simpa using this.2⟩
def ITab (B':Addr->Prop)(d a p:Addr)(k n:Nat)(D:Bs)(i:Nat)(A:AS):Prop:=∃(cs:List CoI)(m:Nat)(o3 o4:Option Sl),A=⟨B',[some (.val (.raw (.ref d))),some (.val (.int k)),some (.own p (.lst (cs.map (pc (wf D))))),o3,o4,none,none,none],some ⟨d,a,m,D⟩⟩/\m<=n+1+3*i/\cs.map CoI.i=List.range' k i/\(∀ c∈cs,KOk c.k)/\∀ c∈cs.head?,c.m=false
theorem yaq:FnScope ["_law_state","_law_number","_law_fields","_law_k","_law_kind_here","_law_sure","_law_way","_law_keys_here"] ["_law_state","_law_number"] (defScope zbp):=⟨rfl,rfl,rfl,by decide +kernel,rfl,by decide +kernel,by decide +kernel⟩
theorem zeo {k:Nat}(D:Df K mg "_law_table" zbp)(B:Bt mg)(yaa:Kn P w K mg base k "_law_take" (spS K false (Tr2 zat)))(yaw:Kn P w K mg base k "_law_word" (spS K false (Tr2 tWord))):Kn P w K mg base (k+1) "_law_table" (spS K false (Tr2 tTable)):=by
 refine D.okS yaq (fun _ _ _ _ _ _=>bd2 fun _ _=>rfl) (fun _ _ _=>Tr2.len) (by decide) (fun f cdv A outer s H E hr=>⟨_,(sc (zaQ (i:=2) yaq.nd (el an))
  (sc (zbC PassesOwn.never rfl (zga (by rfl) B.range (zbc rfl (qv vi) (qv (zaa rfl yaa hr (ac (vn 0) (ac vi an)))))) (g_n (i:=3) yaq.nd)
  (sc (zam (i:=4) yaq.nd (zae rfl hr (qf (el (ac vs (ac vs (ac vs an))))) (qv (zaa rfl yaa hr (ac (vn 0) (ac vi an))))))
  (s1 (zax (zbU rfl 2 (et (ac (zaa rfl yaw hr (ac (vn 0) (ac (zbc rfl (qn 3) (qn 1)) an))) (ac (vn 4) (ac (zhR (e_gt (qn 3) (qv vi)) (zeA (e_eq rfl hr (qv (zaa rfl yaa hr (ac (vn 0) (ac vi an)))) (qv vi)))) an)))))))))
  (sc (zca (i:=5) yaq.nd (N:=["_law_name","_law_kind_here","_law_maybe"]) (k:=3) (ix:=[]) cS0 rfl (i_n rfl 2) (fun _ _ _ _=>(g_t (n:=3) rfl rfl (g_c (g_n (i:=0) (by show(["_law_name","_law_kind_here","_law_maybe"]:List Str).Nodup;decide +kernel)) (g_c (g_n (i:=1) (by show(["_law_name","_law_kind_here","_law_maybe"]:List Str).Nodup;decide +kernel)) (g_c (g_n (i:=2) (by show(["_law_name","_law_kind_here","_law_maybe"]:List Str).Nodup;decide +kernel)) g_0))))) (fun _ _ _ _=>(f_1 (zgu (zdX rfl (qn 2))))) (fun _ _ _ _=>(vn 0)))
  (sc (zam (i:=6) yaq.nd (zaa rfl yaa hr (ac (vn 0) (ac vi an))))
  (sc (zam (i:=7) yaq.nd (zae rfl hr (qf (el (ac (et (ac (et (ac (zae rfl hr (qn 5) (qv vi)) an)) an)) (ac (et an) (ac (et (ac (zaN rfl B.tuple (qn 5)) an)) (ac (et (ac (et (ac (zae rfl hr (qn 5) (qv vi)) an)) (ac (zaN rfl B.tuple (qf (zqr rfl (qn 5)))) an))) an)))))) (qn 6)))
  (sc (s_if (PW.pt (zcL (t_eq rfl hr (qn 6) (qv vi)) (zbO (t_eq rfl hr (qv (zaW rfl B.len (qn 5))) (qv vi))))) (s1 (zam (i:=7) yaq.nd (et (ac (et (ac (zae rfl hr (qn 5) (qv vi)) an)) an)))) sn)
  (s1 (zak (et (ac (zaa rfl yaw hr (ac (vn 0) (ac (zbc rfl (qv vi) (qn 1)) an))) (ac (zaN rfl B.tuple (qn 2)) (ac (vn 7) an)))))))))))),fun B' xs st Q h=>?_⟩)
 obtain⟨x1,rfl,h⟩:=h;change (_:US) (endsS false Q) ⟨B',[some (.val (.raw (.ref st.d))),some (.val x1),none,none,none,none,none,none],some st⟩;obtain⟨k,rfl,hk,W,hn,h⟩:=h;obtain⟨d,a,n,D⟩:=st;have hn':n<=90000:=hn;clear hn;walk_at "";intro p;refine draw (by omega) (by decide) (by decide) fun r r0 r1=>?_;walk_at "";refine⟨by omega,by omega,zjo _ (ITab B' d a p k n D) ⟨[],_,_,_,rfl,by omega,rfl,(fun _ h=>by cases h),fun _ h=>by cases h⟩ (fun _ _ _=>trivial) ?_ ?_⟩
 ·rintro i _ hi ⟨cs,m,o3,o4,rfl,hm,hcs,hko,hhd⟩;have hi3:i<3:=by omega
  have hlen:cs.length=i:=by simpa using congrArg List.length hcs
  walk_at "";refine draw (by omega) (by decide) (by decide) fun q q0 q1=>?_;obtain⟨kd,hkd,ekd⟩:=kd3 q0 q1;walk_at "";refine zac _ ekd ?_;walk_at "";refine⟨W,?_⟩;have ew:wordOf D ((i:Int)+(k:Int))=wf D (k+i):=by unfold wf;congr 1;omega
  have nxt:∀(mb:Bool)(m':Nat),m'<=n+1+3*(i+1)->(i=0->mb=false)->∀ o3 o4,ITab B' d a p k n D (i+1) ⟨B',[some (.val (.raw (.ref d))),some (.val (.int k)),some (.own p (.lst (cs.map (pc (wf D))++[.tup [.str (wordOf D ((i:Int)+(k:Int))),.str kd,.bl mb]]))),o3,o4,none,none,none],some ⟨d,a,m',D⟩⟩:=by
   intro mb m' hm' hmb o3 o4;refine⟨cs++[⟨k+i,kd,mb⟩],m',o3,o4,?_,hm',?_,?_,?_⟩
   ·rw[ew,List.map_append];rfl
   ·rw[List.map_append,hcs,List.range'_concat,Nat.one_mul];rfl
   ·intro c hc;rcases List.mem_append.mp hc with z|z
    ·exact hko c z
    ·rw[List.mem_singleton.mp z];exact hkd
   ·intro c hc
    cases cs with
    |nil=>
     have hc':c=⟨k+i,kd,mb⟩:=by simpa using hc.symm
     rw[hc'];exact hmb (by simpa using hlen.symm)
    |cons c1 cs=>
     refine hhd c ?_;simpa using hc
  refine zah (fun e=>?_) fun e=>?_
  ·walk_at "";refine draw (by omega) (by decide) (by decide) fun q q0 q1=>?_;walk_at "";refine⟨by rw[List.length_map];omega,nxt _ _ (by omega) (fun z=>?_) _ _⟩;exfalso;have:=of_decide_eq_true e;omega
  ·walk_at "";exact⟨by rw[List.length_map];omega,nxt false _ (by omega) (fun z=>rfl) _ _⟩
 ·rintro _ ⟨cs,m,o3,o4,rfl,hm,hcs,hko,hhd⟩;have ha:(1+r).toNat=1\/(1+r).toNat=2\/(1+r).toNat=3:=by omega
  generalize (1+r).toNat=na at *;have hlen:cs.length=na:=by simpa using congrArg List.length hcs
  walk_at "";refine zco cs (pc (wf D)) (fun c=>.str (wf D c.i)) (fun c=>!c.m) (by omega) ?_ ?_
  ·intro B x hx Rs Rn hs hn;simp only[pc];walk_at "";refine zah (fun e=>hn _ (by rw[e];rfl) ⟨rfl,rfl⟩ rfl) fun e=>?_;walk_at "";exact hs _ (by rw[e];rfl) ⟨rfl,rfl⟩ rfl
  obtain⟨kn,kc⟩:=znT hcs
  obtain⟨c0,s',hs⟩:∃ c0 s',cs.filter (fun c=>!c.m)=c0::s':=by
   cases cs with
   |nil=>simp at hlen;omega
   |cons c1 cs=>
    have:c1.m=false:=hhd c1 (by simp);exact⟨c1,_,by rw[List.filter_cons,this];rfl⟩
  rw[hs] at kn kc ⊢
  have hsl:s'.length<=cs.length:=by
   have:=List.length_filter_le (fun c:CoI=>!c.m) cs;rw[hs,List.length_cons] at this;omega
  walk_at "";refine draw (by omega) (by decide) (by decide) fun q q0 q1=>?_;walk_at "";have e9:wordOf D (9+(k:Int))=wf D (9+k):=by unfold wf;congr 1
  have fin:∀ ks:List (List Nat),ks.length<=2->(∀ key∈ks,KeyOk cs key)->Q (.tup [.str (wordOf D (9+(k:Int))),.tup (cs.map (pc (wf D))),.tup (ks.map fun k=>.tup (k.map fun i=>.str (wf D i)))]) ⟨d,a,m+1,D⟩:=by
   intro ks h1 h2;have:=h ⟨9+k,cs,ks⟩ ⟨d,a,m+1,D⟩ ⟨rfl,⟨na,by omega,by omega,hcs⟩,hko,h1,h2⟩ ⟨m+1,(by show m+1<=n+20;omega),rfl⟩;rw[zbR] at this;rw[e9];exact this
  have ok1:KeyOk cs [c0.i]:=⟨⟨by simp,by simp⟩,by simp,fun i hi=>kc i (by rw[List.mem_singleton.mp hi];simp)⟩;have ok2:KeyOk cs (c0.i::s'.map CoI.i):=⟨⟨by simp,by rw[List.length_cons,List.length_map];omega⟩,by simpa using kn,fun i hi=>kc i (by simpa using hi)⟩;have ok3:KeyOk cs (c0.i::s'.map CoI.i).reverse:=⟨⟨by simp,by rw[List.length_reverse,List.length_cons,List.length_map];omega⟩,(List.reverse_perm _).nodup_iff.mpr ok2.2.1,fun i hi=>kc i (by simpa using List.mem_reverse.mp hi)⟩;have f1:=fin [[c0.i]] (by simp) fun key hk=>by rw[List.mem_singleton.mp hk];exact ok1
  have hq:q=0\/q=1\/q=2\/q=3:=by omega
  rcases hq with rfl|rfl|rfl|rfl
  ·walk_at "";exact⟨W,f1⟩
  ·walk_at "";exact⟨W,fin [] (by decide) fun _ h=>by cases h⟩
  ·walk_at "";have f2:=fin [c0.i::s'.map CoI.i] (by simp) fun key hk=>by rw[List.mem_singleton.mp hk];exact ok2
   simp only[List.map_cons,List.map_nil,List.map_map,Function.comp_def] at f2;exact⟨W,f2⟩
  ·walk_at "";refine zah (fun e=>?_) fun e=>?_
   ·walk_at "";exact⟨W,f1⟩
   ·walk_at ""
    have f3:=fin [[c0.i],(c0.i::s'.map CoI.i).reverse] (by simp) fun key hk=>by
     rcases List.mem_cons.mp hk with rfl|hk
     ·exact ok1
     ·rw[List.mem_singleton.mp hk];exact ok3
    simp only[List.map_cons,List.map_nil,List.map_reverse,List.map_map,Function.comp_def] at f3;exact⟨W,f3⟩
end
open PySem L2
def kI (cs:List CoI)(i:Nat):Str:=((cs.find? fun c=>c.i==i).map CoI.k).getD ""
theorem znX {cs:List CoI}{c:CoI}(nd:(cs.map CoI.i).Nodup)(h:c∈cs):kI cs c.i=c.k:=by
 unfold kI
 have:cs.find? (fun d=>d.i==c.i)=some c:=by
  induction cs with
  |nil=>cases h
  |cons a l ih=>
   rw[List.map_cons,List.nodup_cons] at nd;rw[List.find?_cons];rcases List.mem_cons.mp h with rfl|z
   ·simp
   ·have:(a.i==c.i)=false:=by
     rw[beq_eq_false_iff_ne];intro e;exact nd.1 (List.mem_map.mpr ⟨c,z,e.symm⟩)
    rw[this];exact ih nd.2 z
 rw[this];rfl
def MOk (t g:TbI)(key:List Nat)(o:Option (List Nat)):Prop:=∀ fs,o=some fs->fs.Nodup/\(∀ i∈fs,i∈t.cs.map CoI.i)/\fs.map (kI t.cs)=key.map (kI g.cs)
def pI (f:Nat->Str)(l:List Nat):PV:=.tup (l.map fun i=>.str (f i))
def oS (f:Nat->Str):Option (List Nat)->PV
 |none=>.non
 |some l=>pI f l
def TOk (f:Nat->Str)(t:TbI):Prop:=t.cs≠[]/\t.cs.length<=90/\(t.cs.map CoI.i).Nodup/\(t.cs.map fun c=>f c.i).Nodup
def tMatched (x y z:PV)(st:SSt)(Q:PV->SSt->Prop):Prop:=∃(t g:TbI)(key:List Nat),x=pT (tb (wf st.b) t)/\y=pT (tb (wf st.b) g)/\z=pI (wf st.b) key/\TOk (wf st.b) t/\TOk (wf st.b) g/\KeyOk g.cs key/\st.n<=90000/\∀ o st',MOk t g key o->Nx st 1 st'->Q (oS (wf st.b) o) st'
theorem zbn {n:Nat}{xs:List PV}{z:PV}(h:∀ x∈xs,Dp n x)(l:n<80):gEq false (.lst xs) (.lst []) z=(z=.bl xs.isEmpty):=by
 unfold gEq
 have e:peq (.lst xs) (.lst [])=xs.isEmpty:=by
  cases xs<;>rfl
 rw[e,Bool.false_xor];exact propext ⟨fun h=>h.2,fun q=>⟨⟨n+1,l,dp_l h,dp_l fun x hx=>by cases hx⟩,q⟩⟩
theorem zfE {kvs:List (PV×PV)}{k:Key}{v:PV}:(dput' kvs k v).length<=kvs.length+1:=by
 unfold dput'
 split
 ·rw[List.length_map];omega
 ·rw[List.length_append];exact Nat.le_refl _
theorem zjv (f:Nat->Str)(c:CoI):Dp 1 (pc f c):=dp_t fun x hx=>by
 simp only[List.mem_cons,List.not_mem_nil,or_false] at hx;rcases hx with rfl|rfl|rfl
 ·exact zbo _ _
 ·exact zbo _ _
 ·exact zlU _ _
theorem znp {f:Nat->Str}{c e:CoI}(h:peq (pc f c) (pc f e)=true):c.k=e.k:=by
 have:(f c.i==f e.i&&(c.k==e.k&&((c.m==e.m)&&true)))=true:=h;simp only[Bool.and_eq_true,beq_iff_eq] at this;exact this.2.1
theorem zct {α:Type}{p:α->Bool}{c:α}:∀{l r:List α},l.filter p=c::r->∃ d e,l=d++c::e/\p c=true/\∀ x∈d,p x=false
 |[],r,h=>by cases h
 |a::l,r,h=>by
  rw[List.filter_cons] at h
  cases e:p a with
  |true=>
   rw[e,if_pos rfl] at h;cases h;exact⟨[],l,rfl,e,fun _ h=>by cases h⟩
  |false=>
   rw[e,if_neg (by decide)] at h;obtain⟨d,r',e1,e2,e3⟩:=zct h;refine⟨a::d,r',by rw[e1];rfl,e2,fun x hx=>?_⟩;rcases List.mem_cons.mp hx with rfl|z
   ·exact e
   ·exact e3 x z
theorem zki {α β:Type}{h:α->β}:∀{l:List α},(l.map h).Nodup->∀{a b:α},a∈l->b∈l->h a=h b->a=b
 |[],_,_,_,ha,_,_=>by cases ha
 |x::l,nd,a,b,ha,hb,e=>by
  rw[List.map_cons,List.nodup_cons] at nd;rcases List.mem_cons.mp ha with rfl|ha'<;>rcases List.mem_cons.mp hb with rfl|hb'
  ·rfl
  ·exact absurd (List.mem_map.mpr ⟨b,hb',e.symm⟩) nd.1
  ·exact absurd (List.mem_map.mpr ⟨a,ha',e⟩) nd.1
  ·exact zki nd.2 ha' hb' e
def rhoM (f:Nat->Str)(d:Addr)(t g:TbI)(key:List Nat)(o4 o5 o6 o7 o8 o9 o10 o11:Option Sl):List (Option Sl):=[some (.val (.raw (.ref d))),some (.val (pT (tb f t))),some (.val (pT (tb f g))),some (.val (pI f key)),o4,o5,o6,o7,o8,o9,o10,o11]
section
variable {P:Program}{w:World}{K:Frag}{mg:Str->Option Value}{base:Heap}
theorem yai:FnScope ["_law_state","_law_table_here","_law_goal","_law_key","_law_kinds","_law_name","_law_kind_here","_law_maybe","_law_turn","_law_left","_law_found","_law_fitting"] ["_law_state","_law_table_here","_law_goal","_law_key"] (defScope zaY):=⟨rfl,rfl,rfl,by decide +kernel,rfl,by decide +kernel,by decide +kernel⟩
theorem zdn {k:Nat}(D:Df K mg "_law_matched" zaY)(B:Bt mg)(yaa:Kn P w K mg base k "_law_take" (spS K false (Tr2 zat))):Kn P w K mg base (k+1) "_law_matched" (spS K false (Tr4 tMatched)):=by
 refine D.okS yai (fun _ _ _ _ _ _=>bd4 fun _ _ _ _=>rfl) (fun _ _ _=>Tr4.len) (by decide) (fun f cdv A outer s H E hr=>⟨_,(sc (zaQ (i:=4) yai.nd ed0)
  (sc (zbC PassesOwn.never rfl (iv rfl (zae rfl hr (qn 2) (qv vi))) (g_t (n:=3) rfl rfl (g_c (g_n (i:=5) yai.nd) (g_c (g_n (i:=6) yai.nd) (g_c (g_n (i:=7) yai.nd) g_0))))
  (s1 (zbQ hr 4 (vn 6) (vn 5))))
  (sc (zam (i:=8) yai.nd (zaa rfl yaa hr (ac (vn 0) (ac (zaW rfl B.len (qv (zae rfl hr (qn 1) (qv vi)))) an))))
  (sc (zaQ (i:=9) yai.nd (e_list rfl B.list (qv (zbc rfl (qv (e_sl rfl (qv (zae rfl hr (qn 1) (qv vi))) (o_so (vn 8)) o_no)) (qv (e_sl rfl (qv (zae rfl hr (qn 1) (qv vi))) o_no (o_so (vn 8))))))))
  (sc (zaQ (i:=10) yai.nd (el an))
  (sc (zbC PassesOwn.never rfl (i_n rfl 3) (g_n (i:=5) yai.nd)
  (sc (zca (i:=11) yai.nd (N:=["_law_column","_law_kinds","_law_name"]) (k:=1) (ix:=[4,5]) cS rfl (i_n rfl 9) (fun _ _ _ _=>(g_n (i:=0) (by show(["_law_column","_law_kinds","_law_name"]:List Str).Nodup;decide +kernel))) (fun _ _ _ _=>(f_1 (t_eq rfl hr (qv (zae rfl hr (qn 0) (qv vi))) (qv (zae rfl hr (qn 1) (qn 2)))))) (fun _ _ _ _=>(vn 0)))
  (sc (s_if (t_eq rfl hr (qn 11) (qf (el an))) (s1 (zak v0)) sn)
  (sc (zax (zjt rfl hr 9 (zae rfl hr (qn 11) (qv vi))))
  (s1 (zax (zbU rfl 10 (zae rfl hr (qv (zae rfl hr (qn 11) (qv vi))) (qv vi)))))))))
  (s1 (zak (zaN rfl B.tuple (qn 10)))))))))),fun B' xs st Q h=>?_⟩)
 obtain⟨x1,x2,x3,rfl,h⟩:=h;change (_:US) (endsS false Q) ⟨B',[some (.val (.raw (.ref st.d))),some (.val x1),some (.val x2),some (.val x3),none,none,none,none,none,none,none,none],some st⟩;obtain⟨t,g,key,rfl,rfl,rfl,⟨t1,t2,t3,t4⟩,⟨g1,g2,g3,g4⟩,⟨⟨k1,k0⟩,k2,k3⟩,hn,h⟩:=h;obtain⟨d,a,n,D⟩:=st;have hn':n<=90000:=hn;clear hn;simp only[zbR,pI];generalize wf D=f at *;walk_at "";intro p;refine zcz g.cs (pc f) (fun dd A=>∃(kvs:List (PV×PV))(o5 o6 o7:Option Sl),A=⟨B',rhoM f d t g key (some (.own p (.dic kvs))) o5 o6 o7 none none none none,some ⟨d,a,n,D⟩⟩/\kvs.length<=dd.length/\∀ c∈dd,dlook kvs (.inr (f c.i))=some (.str c.k)) ⟨[],none,none,none,by simp only[rhoM,zbR,pI],Nat.le_refl _,fun _ h=>by cases h⟩ (fun _ _ _=>trivial) ?_ ?_
 ·rintro dd x r A2 e ⟨kvs,o5,o6,o7,rfl,hl,hk⟩;have hd:dd.length<=90:=by rw[e,List.length_append] at g2;omega
  simp only[rhoM,zbR,pI,pc];walk_at "";refine⟨by omega,dput' kvs (.inr (f x.i)) (.str x.k),some (.val (.str (f x.i))),some (.val (.str x.k)),some (.val (.bl x.m)),rfl,?_,?_⟩
  ·have:=zfE (kvs:=kvs) (k:=.inr (f x.i)) (v:=.str x.k);rw[List.length_append,List.length_singleton];omega
  ·intro c hc;rw[zeC];have hcg:c∈g.cs:=by rw[e];rcases List.mem_append.mp hc with z|z<;>simp_all
   have hxg:x∈g.cs:=by rw[e];simp
   by_cases q:f x.i=f c.i
   ·rw[if_pos (by rw[q]),zki g4 hxg hcg q]
   ·rw[if_neg fun z=>q (Sum.inr.inj z)];rcases List.mem_append.mp hc with z|z
    ·exact hk c z
    ·rw[List.mem_singleton.mp z] at q;exact absurd rfl q
 ·rintro A2 ⟨kvs,o5,o6,o7,rfl,hl,hk⟩;simp only[rhoM,zbR,pI];walk_at "";have tp:0<t.cs.length:=List.length_pos_iff.mpr t1;refine draw (by omega) (by rw[List.length_map];omega) (by rw[List.length_map];exact Int.lt_of_le_of_lt (b:=90) (by omega) (by decide)) fun r r0 r1=>?_;rw[List.length_map] at r1;have e1:cutP (t.cs.map (pc f)) (some r) none=(t.cs.drop r.toNat).map (pc f):=by rw[zbA r0 (by rw[List.length_map];omega),List.map_drop]
  have e2:cutP (t.cs.map (pc f)) none (some r)=(t.cs.take r.toNat).map (pc f):=by rw[zfH r0 (by rw[List.length_map];omega),List.map_take]
  walk_at "";simp only[e1,e2,<- List.map_append];refine⟨by simp only[List.length_map,List.length_drop,List.length_take];omega,fun q=>?_⟩;walk_at "";intro q2;refine zcz key (fun i=>PV.str (f i)) (fun dd A=>∃(L:List CoI)(fs:List Nat)(o5 o11:Option Sl),A=⟨B',rhoM f d t g key (some (.own p (.dic kvs))) o5 o6 o7 (some (.val (.int r))) (some (.own q (.lst (L.map (pc f))))) (some (.own q2 (.lst (fs.map fun i=>.str (f i))))) o11,some ⟨d,a,n+1,D⟩⟩/\L.length<=90/\(∀ c∈L,c∈t.cs)/\(fs++L.map CoI.i).Nodup/\(∀ i∈fs,i∈t.cs.map CoI.i)/\fs.map (kI t.cs)=dd.map (kI g.cs)) ⟨t.cs.drop r.toNat++t.cs.take r.toNat,[],o5,none,by simp only[rhoM,zbR,pI];rfl,by simp only[List.length_append,List.length_drop,List.length_take];omega,?_,?_,(fun _ h=>by cases h),rfl⟩ (fun _ _ _=>trivial) ?_ ?_
  ·intro c hc;rcases List.mem_append.mp hc with z|z
   ·exact List.mem_of_mem_drop z
   ·exact List.mem_of_mem_take z
  ·rw[List.nil_append]
   have pm:(t.cs.drop r.toNat++t.cs.take r.toNat).Perm t.cs:=by
    have:=List.perm_append_comm (l₁:=t.cs.drop r.toNat) (l₂:=t.cs.take r.toNat);rw[List.take_append_drop] at this;exact this
   exact(pm.map CoI.i).nodup_iff.mpr t3
  ·rintro dd x rr A2 e ⟨L,fs,o5,o11,rfl,hLl,hL,hnd,hfs,hkk⟩;have hx:x∈key:=by rw[e];simp
   obtain⟨gc,hgc,rfl,gm⟩:=k3 x hx;have hfl:fs.length=dd.length:=by simpa using congrArg List.length hkk
   have hd:dd.length<=90:=by rw[e,List.length_append] at k0;omega
   simp only[rhoM,zbR,pI];walk_at "";refine zco L (pc f) (pc f) (fun c=>c.k==gc.k) (by omega) ?_ ?_
   ·intro B c hc Rs Rn hs hn;simp only[pc];walk_at "";refine zac _ (hk gc hgc) ?_;walk_at "";refine zah (fun e=>?_) fun e=>?_
    ·walk_at "";exact hs _ e ⟨rfl,rfl⟩ rfl
    ·exact hn _ e ⟨rfl,rfl⟩ rfl
   walk_at "";refine zac _ (by rw[zbn (n:=1) (fun y hy=>by obtain⟨c,_,rfl⟩:=List.mem_map.mp hy;exact zjv f c) (by decide)]) ?_;refine zah (fun e=>?_) fun e=>?_
   ·walk_at "";exact h none ⟨d,a,n+1,D⟩ (fun fs' z=>by cases z) ⟨n+1,Nat.le_refl _,rfl⟩
   ·cases hF:L.filter (fun c=>c.k==gc.k) with
    |nil=>rw[hF] at e;cases e
    |cons c0 rest=>
     obtain⟨dl,er,hLe,hc0,hdl⟩:=zct hF;have hc0k:c0.k=gc.k:=by simpa using hc0
     walk_at "";refine⟨dl.length,⟨1,by decide,zjv f c0,fun y hy=>by obtain⟨c,_,rfl⟩:=List.mem_map.mp hy;exact zjv f c⟩,⟨pc f c0,?_,zfx 1 _ (zjv f c0)⟩,?_,?_⟩
     ·rw[hLe,List.getElem?_map];simp
     ·intro m y hm hy;rw[hLe,List.getElem?_map,List.getElem?_append_left hm] at hy;obtain⟨c,hc,rfl⟩:=Option.map_eq_some_iff.mp hy;have hcd:=hdl c (List.mem_of_getElem? hc)
      cases hp:peq (pc f c) (pc f c0) with
      |false=>rfl
      |true=>
       have:=znp hp;rw[this,hc0k] at hcd;simp at hcd
     ·have eE:(L.map (pc f)).eraseIdx dl.length=(dl++er).map (pc f):=by
       rw[hLe,List.map_append,List.map_append,List.map_cons,List.eraseIdx_append_of_length_le (by simp)];simp
      rw[eE];simp only[pc];walk_at "";have hc0t:c0∈t.cs:=hL c0 (by rw[hLe];simp);refine⟨by rw[List.length_map];omega,dl++er,fs++[c0.i],some (.val (.str (f gc.i))),some (.val (.lst (pc f c0::rest.map (pc f)))),?_,?_,?_,?_,?_,?_⟩
      ·simp only[rhoM,zbR,pI,List.map_append,List.map_cons,List.map_nil,pc]
      ·rw[hLe,List.length_append,List.length_cons] at hLl;rw[List.length_append];omega
      ·intro c hc;refine hL c ?_;rw[hLe];rcases List.mem_append.mp hc with z|z<;>simp [z]
      ·rw[hLe] at hnd
       have pm:(fs++[c0.i]++(dl++er).map CoI.i).Perm (fs++(dl++c0::er).map CoI.i):=by
        rw[List.append_assoc];refine List.Perm.append_left fs ?_;rw[List.map_append,List.map_append,List.map_cons,List.singleton_append];exact List.perm_middle.symm
       exact pm.nodup_iff.mpr hnd
      ·intro i hi;rcases List.mem_append.mp hi with z|z
       ·exact hfs i z
       ·rw[List.mem_singleton.mp z];exact List.mem_map.mpr ⟨c0,hc0t,rfl⟩
      ·rw[List.map_append,List.map_append,hkk];show _++[kI t.cs c0.i]=_++[kI g.cs gc.i];rw[znX t3 hc0t,znX g3 hgc,hc0k]
  ·rintro A2 ⟨L,fs,o5,o11,rfl,hLl,hL,hnd,hfs,hkk⟩;simp only[rhoM,zbR,pI];walk_at "";refine h (some fs) ⟨d,a,n+1,D⟩ (fun fs' e=>?_) ⟨n+1,Nat.le_refl _,rfl⟩;cases e;exact⟨(List.nodup_append.mp hnd).1,hfs,hkk⟩
end
open PySem L2
def PtOk (ts:List TbI)(p:PtI):Prop:=∃ t∈ts,∃ g∈ts,p.t=t.n/\p.g=g.n/\p.k∈g.ks/\p.cs.Nodup/\(∀ i∈p.cs,i∈t.cs.map CoI.i)/\p.cs.map (kI t.cs)=p.k.map (kI g.cs)
theorem zpQ (f:Nat->Str)(p:PtI):pP (pt f p)=.tup [.str (f p.t),.tup (p.cs.map fun i=>.str (f i)),.str (f p.g),.tup (p.k.map fun i=>.str (f i))]:=by
 simp only[pP,pt,pS,List.map_map,Function.comp_def]
def TkOk (f:Nat->Str)(t:TbI):Prop:=TOk f t/\(∀ key∈t.ks,KeyOk t.cs key)/\t.ks.length<=3
def tPoints (x:PV)(st:SSt)(Q:PV->SSt->Prop):Prop:=∃ ts:List TbI,x=.lst (ts.map fun t=>pT (tb (wf st.b) t))/\(∀ t∈ts,TkOk (wf st.b) t)/\ts.length<=6/\st.n<=80000/\∀(ps:List PtI)(st':SSt),(∀ p∈ps,PtOk ts p)->ps.length<=4->Nx st 300 st'->Q (.lst (ps.map fun p=>pP (pt (wf st.b) p))) st'
def rhoP (f:Nat->Str)(d p:Addr)(ts:List TbI)(ps:List PtI)(o3 o4 o5 o6:Option Sl):List (Option Sl):=[some (.val (.raw (.ref d))),some (.val (.lst (ts.map fun t=>pT (tb f t)))),some (.own p (.lst (ps.map fun p=>pP (pt f p)))),o3,o4,o5,o6]
def PsOk (ts:List TbI)(ps:List PtI)(m c:Nat):Prop:=m<=c/\ps.length<=4/\∀ p∈ps,PtOk ts p
section
variable {P:Program}{w:World}{K:Frag}{mg:Str->Option Value}{base:Heap}
theorem yav:FnScope ["_law_state","_law_tables","_law_points_here","_law_table_here","_law_goal","_law_key","_law_found"] ["_law_state","_law_tables"] (defScope zbh):=⟨rfl,rfl,rfl,by decide +kernel,rfl,by decide +kernel,by decide +kernel⟩
theorem zdL {k:Nat}(D:Df K mg "_law_points" zbh)(B:Bt mg)(yaT:Kn P w K mg base k "_law_matched" (spS K false (Tr4 tMatched)))(yaa:Kn P w K mg base k "_law_take" (spS K false (Tr2 zat))):Kn P w K mg base (k+1) "_law_points" (spS K false (Tr2 tPoints)):=by
 refine D.okS yav (fun _ _ _ _ _ _=>bd2 fun _ _=>rfl) (fun _ _ _=>Tr2.len) (by decide) (fun f cdv A outer s H E hr=>⟨_,(sc (zaQ (i:=2) yav.nd (el an))
  (sc (zbC PassesOwn.never rfl (i_n rfl 1) (g_n (i:=3) yav.nd)
  (s1 (zbC PassesOwn.never rfl (i_n rfl 1) (g_n (i:=4) yav.nd)
  (s1 (zbC PassesOwn.never rfl (iv rfl (zae rfl hr (qn 4) (qv vi))) (g_n (i:=5) yav.nd)
  (s1 (s_if (PW.pt (zcL (t_gt (qv (zaa rfl yaa hr (ac (vn 0) (ac vi an)))) (qv vi)) (zbO (t_lt (qv (zaW rfl B.len (qn 2))) (qv vi))))) (sc (zam (i:=6) yav.nd (zaa rfl yaT hr (ac (vn 0) (ac (vn 3) (ac (vn 4) (ac (vn 5) an))))))
  (s1 (s_if (zpG (qn 6) (qv v0)) (s1 (zax (zbU rfl 2 (et (ac (zae rfl hr (qn 3) (qv vi)) (ac (vn 6) (ac (zae rfl hr (qn 4) (qv vi)) (ac (vn 5) an)))))))) sn))) sn)))))))
  (s1 (zak (vn 2))))),fun B' xs st Q h=>?_⟩)
 obtain⟨x1,rfl,h⟩:=h;change (_:US) (endsS false Q) ⟨B',[some (.val (.raw (.ref st.d))),some (.val x1),none,none,none,none,none],some st⟩;obtain⟨ts,rfl,hts,few,hn,h⟩:=h;obtain⟨d,a,n,D⟩:=st;have hn':n<=80000:=hn;clear hn;simp only[SSt.b] at *;generalize hf:wf D=f at *;walk_at "";intro p;refine zcz ts (fun t=>pT (tb f t)) (fun dd A=>∃ ps m o3 o4 o5 o6,A=⟨B',rhoP f d p ts ps o3 o4 o5 o6,some ⟨d,a,m,D⟩⟩/\PsOk ts ps m (n+36*dd.length)) ⟨[],n,none,none,none,none,rfl,Nat.le_refl _,by decide,fun _ h=>by cases h⟩ (fun _ _ _=>trivial) ?_ ?_
 ·rintro d1 t r1 A2 e1 ⟨ps,m,o3,o4,o5,o6,rfl,hp⟩;have ht:t∈ts:=by rw[e1];simp
  have hd1:d1.length<6:=by rw[e1,List.length_append,List.length_cons] at few;omega
  simp only[rhoP];walk_at "";refine zcz ts (fun t=>pT (tb f t)) (fun dd A=>∃ ps m o4 o5 o6,A=⟨B',rhoP f d p ts ps (some (.val (pT (tb f t)))) o4 o5 o6,some ⟨d,a,m,D⟩⟩/\PsOk ts ps m (n+36*d1.length+6*dd.length)) ⟨ps,m,o4,o5,o6,rfl,hp⟩ (fun _ _ _=>trivial) ?_ ?_
  ·rintro d2 g r2 A2 e2 ⟨ps,m,o4,o5,o6,rfl,hp⟩;have hg:g∈ts:=by rw[e2];simp
   have hd2:d2.length<6:=by rw[e2,List.length_append,List.length_cons] at few;omega
   have hgk:=(hts g hg).2.2;simp only[rhoP,zbR];walk_at "";refine zcz g.ks (fun k=>PV.tup (k.map fun i=>.str (f i))) (fun dd A=>∃ ps m o5 o6,A=⟨B',rhoP f d p ts ps (some (.val (pT (tb f t)))) (some (.val (pT (tb f g)))) o5 o6,some ⟨d,a,m,D⟩⟩/\PsOk ts ps m (n+36*d1.length+6*d2.length+2*dd.length)) ⟨ps,m,o5,o6,by simp only[rhoP,zbR],hp⟩ (fun _ _ _=>trivial) ?_ ?_
   ·rintro d3 key r3 A2 e3 ⟨ps,m,o5,o6,rfl,hp1,hp2,hp3⟩;have hk:key∈g.ks:=by rw[e3];simp
    have hd3:d3.length<3:=by rw[e3,List.length_append,List.length_cons] at hgk;omega
    simp only[rhoP];walk_at "";refine draw (by omega) (by decide) (by decide) fun q q0 q1=>?_;walk_at "";refine zah (fun e=>?_) fun e=>?_
    ·walk_at "";refine zah (fun e=>?_) fun e=>?_
     ·walk_at "";subst hf;refine⟨t,g,key,rfl,rfl,rfl,(hts t ht).1,(hts g hg).1,(hts g hg).2.1 key hk,(by show m+1<=90000;omega),fun o st' ho hst=>?_⟩;obtain⟨m',hm',rfl⟩:=hst;have hm2:m'<=m+1+1:=hm'
      cases o with
      |none=>
       simp only[oS];walk_at "";refine⟨ps,m',some (.val (.tup (key.map fun i=>.str (wf D i)))),some (.val .non),rfl,?_,hp2,hp3⟩;rw[List.length_append,List.length_singleton];omega
      |some fs=>
       obtain⟨o1,o2,o3'⟩:=ho fs rfl;simp only[oS,pI,zbR];walk_at ""
       have hps:ps.length<4:=by
        have:=of_decide_eq_true e;rw[List.length_map] at this;omega
       refine⟨by rw[List.length_map];omega,ps++[⟨t.n,fs,g.n,key⟩],m',some (.val (.tup (key.map fun i=>.str (wf D i)))),some (.val (.tup (fs.map fun i=>.str (wf D i)))),?_,?_,?_,?_⟩
       ·simp only[rhoP,zbR,zpQ,List.map_append,List.map_cons,List.map_nil]
       ·rw[List.length_append,List.length_singleton];omega
       ·rw[List.length_append,List.length_singleton];omega
       ·intro x hx;rcases List.mem_append.mp hx with z|z
        ·exact hp3 x z
        ·rw[List.mem_singleton.mp z];exact⟨t,ht,g,hg,rfl,rfl,hk,o1,o2,o3'⟩
     ·walk_at "";refine⟨ps,m+1,some (.val (.tup (key.map fun i=>.str (f i)))),o6,rfl,?_,hp2,hp3⟩;rw[List.length_append,List.length_singleton];omega
    ·walk_at "";refine⟨ps,m+1,some (.val (.tup (key.map fun i=>.str (f i)))),o6,rfl,?_,hp2,hp3⟩;rw[List.length_append,List.length_singleton];omega
   ·rintro A2 ⟨ps,m,o5,o6,rfl,hp1,hp2,hp3⟩;walk_at "";refine⟨ps,m,some (.val (pT (tb f g))),o5,o6,by simp only[rhoP,zbR],?_,hp2,hp3⟩;rw[List.length_append,List.length_singleton];omega
  ·rintro A2 ⟨ps,m,o4,o5,o6,rfl,hp1,hp2,hp3⟩;walk_at "";refine⟨ps,m,_,_,_,_,rfl,?_,hp2,hp3⟩;rw[List.length_append,List.length_singleton];omega
 ·rintro A2 ⟨ps,m,o3,o4,o5,o6,rfl,hp1,hp2,hp3⟩;simp only[rhoP];walk_at "";exact h ps ⟨d,a,m,D⟩ hp3 hp2 ⟨m,(by show m<=n+300;omega),rfl⟩
end
open PySem L2
theorem zmn {D:Bs}(W:WdOk D){i j:Nat}(hi:i<26)(hj:j<26)(e:wf D i=wf D j):i=j:=by
 have e1:wordL D i=wordL D j:=by
  have:(wordL D i).toArray=(wordL D j).toArray:=congrArg Str.cps e;simpa using congrArg Array.toList this
 unfold wordL at e1;have e2:=List.append_cancel_left e1;have e3:=(List.cons.inj e2).1;obtain⟨_,_,z0,z1,_,_⟩:=W;omega
structure Wds (f:Nat->Str):Prop where
 inj:∀ i j,i<26->j<26->f i=f j->i=j
theorem zpq {D:Bs}(W:WdOk D):Wds (wf D):=⟨fun i j hi hj e=>zmn W hi hj e⟩
theorem nd_f {f:Nat->Str}(F:Wds f):∀{l:List Nat},(∀ i∈l,i<26)->l.Nodup->(l.map f).Nodup
 |[],_,_=>List.nodup_nil
 |a::l,h,nd=>by
  rw[List.nodup_cons] at nd;rw[List.map_cons,List.nodup_cons];refine⟨fun m=>?_,nd_f F (fun i hi=>h i (by simp [hi])) nd.2⟩;obtain⟨b,hb,e⟩:=List.mem_map.mp m;rw[F.inj b a (h b (by simp [hb])) (h a (by simp)) e] at hb;exact nd.1 hb
structure TN (t:TbI):Prop where
 n:t.n<26
 ne:t.cs≠[]
 few:t.cs.length<=90
 lt:∀ i∈t.cs.map CoI.i,i<26
 nd:(t.cs.map CoI.i).Nodup
 k:∀ c∈t.cs,KOk c.k
 kl:t.ks.length<=3
 key:∀ key∈t.ks,KeyOk t.cs key
 l3:t.cs.length<=3
theorem zpE {k:Nat}(hk:k<3){t:TbI}(h:TiOk k t):TN t:=by
 obtain⟨h1,⟨a,a1,a3,hi⟩,h3,h4,h5⟩:=h;have hl:t.cs.length=a:=by simpa using congrArg List.length hi
 refine⟨by omega,?_,by omega,?_,?_,h3,by omega,h5,by omega⟩
 ·intro z;rw[z] at hl;simp at hl;omega
 ·intro i hm;rw[hi,List.mem_range'_1] at hm;omega
 ·rw[hi];exact List.nodup_range'
theorem TN.tok {t:TbI}(T:TN t){f:Nat->Str}(F:Wds f):TkOk f t:=by
 refine⟨⟨T.ne,T.few,T.nd,?_⟩,T.key,T.kl⟩;have:=nd_f F T.lt T.nd;rw[List.map_map] at this;exact this
def Each (R:Nat->TbI->Prop)(ts:List TbI):Prop:=∀ j t,ts[j]?=some t->R j t
theorem zhN {R:Nat->TbI->Prop}{ts:List TbI}{t:TbI}(h:Each R ts)(q:R ts.length t):Each R (ts++[t]):=by
 intro j x hx;rcases Nat.lt_trichotomy j ts.length with l|l|l
 ·rw[List.getElem?_append_left l] at hx;exact h j x hx
 ·subst l;simp at hx;rw[<- hx];exact q
 ·rw[List.getElem?_eq_none (by simp;omega)] at hx;cases hx
open PySem L2
def FrOk (ts:List TbI):Prop:=ts≠[]/\ts.length<=3/\∀ t∈ts,TN t
def tFrame (st:SSt)(Q:PV->SSt->Prop):Prop:=WdOk st.b/\st.n<=1000/\∀(ts:List TbI)(y:PV)(st':SSt),FrOk ts->Nx st 500 st'->Q (.tup [.tup (ts.map fun t=>pT (tb (wf st.b) t)),y]) st'
section
variable {P:Program}{w:World}{K:Frag}{mg:Str->Option Value}{base:Heap}
theorem yaY:FnScope ["_law_state","_law_tables"] ["_law_state"] (defScope zbr):=⟨rfl,rfl,rfl,by decide +kernel,rfl,by decide +kernel,by decide +kernel⟩
theorem zeq {k:Nat}(D:Df K mg "_law_frame" zbr)(B:Bt mg)(ybd:Kn P w K mg base k "_law_table" (spS K false (Tr2 tTable)))(yaZ:Kn P w K mg base k "_law_points" (spS K false (Tr2 tPoints)))(yaa:Kn P w K mg base k "_law_take" (spS K false (Tr2 zat))):Kn P w K mg base (k+1) "_law_frame" (spS K false (Tr1 tFrame)):=by
 refine D.okS yaY (fun _ _ _ _ _ _=>bd1 fun _=>rfl) (fun _ _ _=>Tr1.len) (by decide) (fun f cdv A outer s H E hr=>⟨_,(sc (zca (i:=1) yaY.nd (N:=["_law_number","_law_state"]) (k:=1) (ix:=[0]) cS rfl (zga (by rfl) B.range (zbc rfl (qv vi) (qv (zaa rfl yaa hr (ac (vn 0) (ac vi an)))))) (fun _ _ _ _=>(g_n (i:=0) (by show(["_law_number","_law_state"]:List Str).Nodup;decide +kernel))) (fun _ _ _ _=>f_0) (fun _ _ _ _=>(zaa rfl ybd hr (ac (vn 1) (ac (vn 0) an)))))
  (s1 (zak (et (ac (zaN rfl B.tuple (qn 1)) (ac (zaN rfl B.tuple (qv (zaa rfl yaZ hr (ac (vn 0) (ac (vn 1) an))))) an)))))),fun B' xs st Q h=>?_⟩)
 obtain⟨rfl,h⟩:=h;change (_:US) (endsS false Q) ⟨B',[some (.val (.raw (.ref st.d))),none],some st⟩;obtain⟨W,hn,h⟩:=h;obtain⟨d,a,n,D⟩:=st;have W':WdOk D:=W;have hn':n<=1000:=hn;clear hn;simp only[SSt.b] at *;walk_at "";refine draw (by omega) (by decide) (by decide) fun r r0 r1=>?_;walk_at "";have hr6:(2+r).toNat<=3:=by omega
 have hr1:2<=(2+r).toNat:=by omega
 refine⟨by omega,by omega,?_⟩;generalize (2+r).toNat=N at *;refine zkr N (fun i ys S=>∃(tis:List TbI)(m:Nat),ys=tis.map (fun t=>pT (tb (wf D) t))/\S=some ⟨d,a,m,D⟩/\m<=n+1+20*i/\tis.length=i/\Each TiOk tis) (by omega) ⟨[],n+1,rfl,rfl,by omega,rfl,fun j t ht=>by simp at ht⟩ ?_ ?_
 ·rintro B i _ _ hi ⟨tis,m,rfl,rfl,hm,hl,he⟩ R hR;walk_at "";refine⟨i,rfl,by omega,W',(by show m<=90000;omega),fun t st' ht hst=>?_⟩;obtain⟨m',hm',rfl⟩:=hst;have hm2:m'<=m+20:=hm';refine hR _ _ ⟨rfl,rfl⟩ ⟨tis++[t],m',by rw[List.map_append];rfl,rfl,by omega,by rw[List.length_append,hl];rfl,zhN he (by rw[hl];exact ht)⟩
 rintro _ _ ⟨ts,m,rfl,rfl,hm,hl,he⟩
 have hT:∀ t∈ts,TN t:=fun t ht=>by
  obtain⟨j,hj,e⟩:=List.getElem_of_mem ht;exact zpE (k:=j) (by omega) (he j t (by rw[List.getElem?_eq_getElem hj,e]))
 have ne:ts≠[]:=by intro z;rw[z] at hl;simp at hl;omega
 have F:=zpq W';walk_at "";refine⟨ts,rfl,fun t ht=>(hT t ht).tok F,by omega,(by show m<=80000;omega),fun ps st' hps hpl hst=>?_⟩;obtain⟨m2,hm2,rfl⟩:=hst;have hm3:m2<=m+300:=hm2;walk_at "";exact h ts _ ⟨d,a,m2,D⟩ ⟨ne,by omega,hT⟩ ⟨m2,(by show m2<=n+500;omega),rfl⟩
end
open PySem L2 ST
def Pn:Nat->PV->Prop
 |_,.non=>True
 |_,.int _=>True
 |_,.str _=>True
 |n+1,.tup xs=>∀ x∈xs,Pn n x
 |_,_=>False
theorem Pn.mono:∀{n m:Nat}{x:PV},Pn n x->n<=m->Pn m x
 |n,m,.non,_,_=>by cases m<;>trivial
 |n,m,.int _,_,_=>by cases m<;>trivial
 |n,m,.str _,_,_=>by cases m<;>trivial
 |n+1,m+1,.tup xs,h,l=>fun x hx=>Pn.mono (h x hx) (by omega)
 |n+1,0,.tup xs,h,l=>by omega
 |0,m,.tup xs,h,l=>h.elim
 |0,m,.bl _,h,l=>h.elim
 |n+1,m,.bl _,h,l=>h.elim
 |0,m,.lst _,h,l=>h.elim
 |n+1,m,.lst _,h,l=>h.elim
 |0,m,.dic _,h,l=>h.elim
 |n+1,m,.dic _,h,l=>h.elim
 |0,m,.raw _,h,l=>h.elim
 |n+1,m,.raw _,h,l=>h.elim
theorem Pn.dp:∀{n:Nat}{x:PV},Pn n x->Dp n x
 |n,.non,_=>zoR n
 |n,.int i,_=>zeB n i
 |n,.str z,_=>zbo n z
 |n+1,.tup xs,h=>dp_t fun x hx=>(h x hx).dp
 |0,.tup xs,h=>h.elim
 |0,.bl _,h=>h.elim
 |n+1,.bl _,h=>h.elim
 |0,.lst _,h=>h.elim
 |n+1,.lst _,h=>h.elim
 |0,.dic _,h=>h.elim
 |n+1,.dic _,h=>h.elim
 |0,.raw _,h=>h.elim
 |n+1,.raw _,h=>h.elim
theorem zaS (n:Nat)(z:Str):Pn n (.str z):=by cases n<;>trivial
theorem znj (n:Nat)(z:Int):Pn n (.int z):=by cases n<;>trivial
mutual
def fl:PV->List Fl
 |.non=>[.no]
 |.int i=>[.num i]
 |.str z=>[.txt z]
 |.tup xs=>.box xs.length::fls xs
 |_=>[]
def fls:List PV->List Fl
 |[]=>[]
 |x::xs=>fls xs++fl x
end
theorem zoC (n:Nat):(∀{x y:PV}{r r':List Fl},Pn n x->Pn n y->fl x++r=fl y++r'->x=y/\r=r'):=by
 induction n with
 |zero=>
  intro x y r r' hx hy h;cases x<;>cases y<;>first|exact hx.elim|exact hy.elim|skip
  all_goals (simp only[fl,List.cons_append,List.nil_append] at h;first|(cases h;exact⟨rfl,rfl⟩)|cases h)
 |succ n ih=>
  have ls:∀{xs ys:List PV}{r r':List Fl},xs.length=ys.length->(∀ x∈xs,Pn n x)->(∀ x∈ys,Pn n x)->fls xs++r=fls ys++r'->xs=ys/\r=r':=by
   intro xs
   induction xs with
   |nil=>
    intro ys r r' hl _ _ h
    cases ys with
    |nil=>exact⟨rfl,h⟩
    |cons _ _=>cases hl
   |cons a xs ihx=>
    intro ys r r' hl hx hy h
    cases ys with
    |nil=>cases hl
    |cons b ys=>
     simp only[fls,List.append_assoc] at h;obtain⟨rfl,h2⟩:=ihx (by simpa using hl) (fun x hx'=>hx x (List.mem_cons_of_mem _ hx')) (fun x hx'=>hy x (List.mem_cons_of_mem _ hx')) h;obtain⟨rfl,h3⟩:=ih (hx a List.mem_cons_self) (hy b List.mem_cons_self) h2;exact⟨rfl,h3⟩
  intro x y r r' hx hy h;cases x<;>cases y<;>first|exact hx.elim|exact hy.elim|skip
  case tup.tup xs ys=>
   simp only[fl,List.cons_append] at h;injection h with h1 h2
   injection h1 with h1
   obtain⟨rfl,h3⟩:=ls (by exact_mod_cast h1) hx hy h2;exact⟨rfl,h3⟩
  all_goals (simp only[fl,List.cons_append,List.nil_append] at h;first|(cases h;exact⟨rfl,rfl⟩)|cases h)
theorem zhJ {n:Nat}{x y:PV}(hx:Pn n x)(hy:Pn n y)(h:fl x=fl y):x=y:=(zoC n (r:=[]) (r':=[]) hx hy (by rw[h])).1
theorem zbe (n:Nat):∀{x y:PV},Pn n x->Pn n y->(peq x y=true↔x=y):=by
 induction n with
 |zero=>
  intro x y hx hy;cases x<;>cases y<;>first|exact hx.elim|exact hy.elim|skip
  all_goals (simp [peq])
 |succ n ih=>
  have ls:∀{xs ys:List PV},(∀ x∈xs,Pn n x)->(∀ x∈ys,Pn n x)->(peqs xs ys=true↔xs=ys):=by
   intro xs
   induction xs with
   |nil=>intro ys _ _;cases ys<;>simp [peqs]
   |cons a xs ihx=>
    intro ys hx hy
    cases ys with
    |nil=>simp [peqs]
    |cons b ys=>
     simp only[peqs,Bool.and_eq_true,List.cons.injEq];rw[ihx (fun x hx'=>hx x (List.mem_cons_of_mem _ hx')) (fun x hx'=>hy x (List.mem_cons_of_mem _ hx')),ih (hx a List.mem_cons_self) (hy b List.mem_cons_self)]
  intro x y hx hy;cases x<;>cases y<;>first|exact hx.elim|exact hy.elim|skip
  case tup.tup xs ys=>simp only[peq,PV.tup.injEq];exact ls hx hy
  all_goals (simp [peq])
theorem zbT:∀(xs:List PV)(x:PV),fls (xs++[x])=fl x++fls xs
 |[],x=>by simp [fls]
 |a::xs,x=>by rw[List.cons_append,fls,zbT xs x,fls,List.append_assoc]
theorem zdO:∀(xs ys:List PV),fls (xs++ys)=fls ys++fls xs
 |[],ys=>by simp [fls]
 |a::xs,ys=>by rw[List.cons_append,fls,zdO xs ys,fls,List.append_assoc]
inductive Cn where
 |yes
 |both (l r:Cn)
 |one (t:Str)(xs:List PV)
def pCn:Cn->PV
 |.yes=>.tup [.str "yes"]
 |.both l r=>.tup [.str "both",pCn l,pCn r]
 |.one t xs=>.tup (.str t::xs)
def cj:Cn->List PV
 |.yes=>[]
 |.both l r=>cj l++cj r
 |.one t xs=>[.tup (.str t::xs)]
def OnOk (t:Str)(xs:List PV):Prop:=(t≠"both"/\t≠"yes")/\(∀ x∈xs,Pn 9 x)/\(fl (.tup (.str t::xs))).length<=200
def CnOk:Nat->Cn->Prop
 |_,.yes=>True
 |n+1,.both l r=>CnOk n l/\CnOk n r
 |0,.both _ _=>False
 |_,.one t xs=>OnOk t xs
def cz:Cn->Nat
 |.yes=>1
 |.both l r=>1+cz l+cz r
 |.one _ _=>1
theorem CnOk.mono:∀{n m:Nat}{c:Cn},CnOk n c->n<=m->CnOk m c
 |_,m,.yes,_,_=>by cases m<;>trivial
 |n,m,.one t xs,h,_=>by cases n<;>cases m<;>exact h
 |n+1,m+1,.both l r,h,le=>⟨CnOk.mono h.1 (by omega),CnOk.mono h.2 (by omega)⟩
 |n+1,0,.both _ _,_,le=>by omega
 |0,_,.both _ _,h,_=>h.elim
theorem zdq:∀{n:Nat}{c:Cn},CnOk n c->∀ x∈cj c,Pn 10 x/\(fl x).length<=200/\∃ xs,x=.tup xs
 |_,.yes,_,x,hx=>by cases hx
 |n+1,.both l r,h,x,hx=>by
  rcases List.mem_append.mp hx with z|z
  ·exact zdq h.1 x z
  ·exact zdq h.2 x z
 |0,.both _ _,h,_,_=>h.elim
 |n,.one t xs,h,x,hx=>by
  have h':OnOk t xs:=by cases n<;>exact h
  rw[cj,List.mem_singleton] at hx;subst hx;refine⟨fun y hy=>?_,h'.2.2,_,rfl⟩;rcases List.mem_cons.mp hy with e|e
  ·rw[e];exact zaS _ _
  ·exact h'.2.1 y e
theorem zdv:∀{n:Nat}{c:Cn},CnOk n c->Pn (n+10) (pCn c)
 |n,.yes,_=>fun y hy=>by rw[List.mem_singleton.mp hy];exact zaS _ _
 |n+1,.both l r,h=>fun y hy=>by
  simp only[List.mem_cons,List.not_mem_nil,or_false] at hy;rcases hy with rfl|rfl|rfl
  ·exact zaS _ _
  ·exact(zdv h.1).mono (by omega)
  ·exact(zdv h.2).mono (by omega)
 |0,.both _ _,h=>h.elim
 |n,.one t xs,h=>fun y hy=>by
  have h':OnOk t xs:=by cases n<;>exact h
  rcases List.mem_cons.mp hy with e|e
  ·rw[e];exact zaS _ _
  ·exact(h'.2.1 y e).mono (by omega)
def cjs:List Cn->List PV
 |[]=>[]
 |c::cs=>cjs cs++cj c
def czs:List Cn->Nat
 |[]=>0
 |c::cs=>czs cs+cz c
theorem zcI:∀(xs:List Cn)(x:Cn),cjs (xs++[x])=cj x++cjs xs
 |[],x=>by simp [cjs]
 |a::xs,x=>by rw[List.cons_append,cjs,zcI xs x,cjs,List.append_assoc]
theorem zcH:∀(xs:List Cn)(x:Cn),czs (xs++[x])=cz x+czs xs
 |[],x=>by simp [czs]
 |a::xs,x=>by rw[List.cons_append,czs,zcH xs x,czs,Nat.add_assoc]
theorem zoY (c:Cn):1<=cz c:=by cases c<;>simp [cz]<;>omega
theorem zhZ:∀(xs:List Cn),xs.length<=czs xs
 |[]=>Nat.le_refl _
 |a::xs=>by have:=zoY a;have:=zhZ xs;simp only[czs,List.length_cons];omega
theorem zdf:∀ c:Cn,(cj c).length<=cz c
 |.yes=>by simp [cj,cz]
 |.both l r=>by have:=zdf l;have:=zdf r;simp only[cj,cz,List.length_append];omega
 |.one _ _=>by simp [cj,cz]
open PySem L2 ST
def rFlat (x r:PV):Prop:=∃ n,n<=60/\Pn n x/\(fl x).length<=9000/\r=pFs (fl x)
def rConj (x r:PV):Prop:=∃ n c,x=pCn c/\CnOk n c/\n<=40/\cz c<=9000/\r=.lst (cj c)
def mu (A:AS):Nat:=match A.rho[2]? with
 |some (some (Sl.own _ (OC.lst xs)))=>(fls xs).length
 |_=>0
theorem zkp {n:Nat}{x:PV}(h:Pn n x):1<=(fl x).length:=by
 cases n<;>cases x<;>first|exact h.elim|simp [fl]
theorem zfi {n:Nat}:∀{xs:List PV},(∀ x∈xs,Pn n x)->xs.length<=(fls xs).length
 |[],_=>Nat.le_refl _
 |x::xs,h=>by
  have:=zfi (xs:=xs) fun y hy=>h y (List.mem_cons_of_mem _ hy);have:=zkp (h x List.mem_cons_self);simp only[fls,List.length_cons,List.length_append];omega
theorem zgC {α:Type}(l:List α):l=[]\/∃ ys y,l=ys++[y]:=by
 rcases List.eq_nil_or_concat l with h|⟨ys,y,h⟩
 ·exact .inl h
 ·exact .inr ⟨ys,y,by rw[h,List.concat_eq_append]⟩
section
variable {P:Program}{w:World}{K:Frag}{mg:Str->Option Value}{base:Heap}
theorem ybk:FnScope ["thing","found","left","part"] ["thing"] (defScope zhY):=⟨rfl,rfl,rfl,by decide +kernel,rfl,by decide +kernel,by decide +kernel⟩
theorem znW {k:Nat}(D:Df K mg "flat" zhY)(B:Bt mg):Kn P w K mg base (k+1) "flat" (spV K false (Rl1 rFlat)):=by
 refine D.okV ybk (fun _ _ _ _ _ _=>bd1 fun _=>rfl) (fun _ _=>Rl1.len) (by decide) (fun f cdv A outer s H E hr=>⟨_,(sc (zaQ (i:=1) ybk.nd (el an))
  (sc (zaQ (i:=2) ybk.nd (el (ac (vn 0) an)))
  (sc (zgG PassesOwn.never (zdX rfl (qn 2))
  (sc (zam (i:=3) ybk.nd (zoN rfl 2))
  (s1 (s_if (zdX rfl (qv (zhP .tuple rfl B.isinstance B.tuple PyProof.Rows.boot_tuple (qn 3)))) (sc (zax (zbU rfl 1 (et (ac (zaW rfl B.len (qn 3)) an))))
  (s1 (zax (zoP rfl 2 (qn 3))))) (s1 (zax (zbU rfl 1 (vn 3))))))))
  (s1 (zak (zaN rfl B.tuple (qn 1))))))),fun B' xs r h=>?_⟩)
 obtain⟨x0,rfl,h⟩:=h;change (_:US) (endsV false r) ⟨B',[some (.val x0),none,none,none],none⟩;obtain⟨n,hn,hx,hl,rfl⟩:=h;walk_at "";intro p q;refine⟨fun A=>∃(acc:List Fl)(st:List PV)(o:Option Sl),A=⟨B',[some (.val x0),some (.own p (.lst (acc.map pF))),some (.own q (.lst st)),o],none⟩/\(∀ y∈st,Pn n y)/\acc++fls st=fl x0,mu,⟨[],[x0],none,rfl,fun y hy=>by rw[List.mem_singleton.mp hy];exact hx,by simp [fls]⟩,?_⟩;rintro _ ⟨acc,st,o,rfl,hp,he⟩;have hL:acc.length+(fls st).length<=9000:=by rw[<- List.length_append,he];exact hl
 rcases zgC st with rfl|⟨ys,y,rfl⟩
 ·walk_at "";rw[if_neg (by decide)];rw[fls,List.append_nil] at he;rw[he];rfl
 ·have hy:=hp y (by simp);have hys:∀ z∈ys,Pn n z:=fun z hz=>hp z (by simp [hz]);rw[zbT] at he hL;have hyl:=zfi hys;have hp1:=zkp hy;rw[List.length_append] at hL;have fin:∀ f:Fl,pF f=y->fl y=[f]->∃(acc':List Fl)(st:List PV)(o:Option Sl),(⟨B',[some (.val x0),some (.own p (.lst (acc.map pF++[y]))),some (.own q (.lst ys)),some (.val y)],none⟩:AS)=⟨B',[some (.val x0),some (.own p (.lst (acc'.map pF))),some (.own q (.lst st)),o],none⟩/\(∀ y∈st,Pn n y)/\acc'++fls st=fl x0:=fun f e1 e2=>⟨acc++[f],ys,_,by rw[List.map_append,List.map_cons,List.map_nil,e1],hys,by rw[<- he,e2,List.append_assoc]⟩
  have dec:∀ A:AS,A.rho[2]?=some (some (Sl.own q (OC.lst ys)))->mu A<mu ⟨B',[some (.val x0),some (.own p (.lst (acc.map pF))),some (.own q (.lst (ys++[y]))),o],none⟩:=fun A e=>by
   show(match A.rho[2]? with|some (some (Sl.own _ (OC.lst xs)))=>(fls xs).length|_=>0)<(fls (ys++[y])).length;rw[e,zbT,List.length_append];show(fls ys).length<_;omega
  walk_at "";rw[if_pos (by simp)];refine⟨ys,y,rfl,?_⟩
  cases y with
  |non=>
   refine zac false rfl ?_;walk_at "";exact⟨by rw[List.length_map];omega,fin .no rfl rfl,dec _ rfl⟩
  |int i=>
   refine zac false rfl ?_;walk_at "";exact⟨by rw[List.length_map];omega,fin (.num i) rfl rfl,dec _ rfl⟩
  |str z=>
   refine zac false rfl ?_;walk_at "";exact⟨by rw[List.length_map];omega,fin (.txt z) rfl rfl,dec _ rfl⟩
  |tup xs=>
   refine zac true rfl ?_;walk_at ""
   have hxs:∀ z∈xs,Pn n z:=fun z hz=>by
    cases n with
    |zero=>exact hy.elim
    |succ m=>exact(hy z hz).mono (Nat.le_succ m)
   have hxl:=zfi hxs;have hfx:(fl (.tup xs)).length=1+(fls xs).length:=by rw[fl,List.length_cons,Nat.add_comm]
   refine⟨by rw[List.length_map];omega,by omega,⟨acc++[.box xs.length],ys++xs,_,by rw[List.map_append];rfl,fun z hz=>?_,?_⟩,?_⟩
   ·rcases List.mem_append.mp hz with h|h
    ·exact hys z h
    ·exact hxs z h
   ·rw[<- he,zdO,fl,List.append_assoc];rfl
   ·show(fls (ys++xs)).length<(fls (ys++[PV.tup xs])).length;rw[zdO,zbT,List.length_append,List.length_append];omega
  |_=>cases n<;>exact hy.elim
theorem yaF:FnScope ["cond","found","left","part"] ["cond"] (defScope zbE):=⟨rfl,rfl,rfl,by decide +kernel,rfl,by decide +kernel,by decide +kernel⟩
theorem zeY {k:Nat}(D:Df K mg "conjuncts" zbE)(B:Bt mg):Kn P w K mg base (k+1) "conjuncts" (spV K true (Rl1 rConj)):=by
 refine D.okV yaF (fun _ _ _ _ _ _=>bd1 fun _=>rfl) (fun _ _=>Rl1.len) (by decide) (fun f cdv A outer s H E hr=>⟨_,(sc (zaQ (i:=1) yaF.nd (el an))
  (sc (zaQ (i:=2) yaF.nd (el (ac (vn 0) an)))
  (sc (zgG PassesOwn.never (zdX rfl (qn 2))
  (sc (zam (i:=3) yaF.nd (zoN rfl 2))
  (s1 (s_if (t_eq rfl hr (qv (zae rfl hr (qn 3) (qv vi))) (qv vs)) (s1 (zax (zoP rfl 2 (qf (el (ac (zae rfl hr (qn 3) (qv vi)) (ac (zae rfl hr (qn 3) (qv vi)) an))))))) (s1 (s_if (t_ne rfl hr (qv (zae rfl hr (qn 3) (qv vi))) (qv vs)) (s1 (zax (zbU rfl 1 (vn 3)))) sn))))))
  (s1 (zmT (i:=1)))))),fun B' xs r h=>?_⟩)
 obtain⟨x0,rfl,h⟩:=h;change (_:US) (endsV true r) ⟨B',[some (.val x0),none,none,none],none⟩;obtain⟨n,c,rfl,hc,hn,hz,rfl⟩:=h;walk_at "";intro p q;refine⟨fun A=>∃(acc:List PV)(st:List Cn)(o:Option Sl),A=⟨B',[some (.val (pCn c)),some (.own p (.lst acc)),some (.own q (.lst (st.map pCn))),o],none⟩/\(∀ y∈st,CnOk n y)/\acc++cjs st=cj c/\czs st<=cz c,mu,⟨[],[c],none,rfl,fun y hy=>by rw[List.mem_singleton.mp hy];exact hc,by simp [cjs],by simp [czs]⟩,?_⟩;rintro _ ⟨acc,st,o,rfl,hp,he,hs⟩
 have hL:acc.length<=9000:=by
  have h1:=congrArg List.length he;rw[List.length_append] at h1;have:=zdf c;omega
 rcases zgC st with rfl|⟨ys,y,rfl⟩
 ·walk_at "";rw[if_neg (by decide)];rw[cjs,List.append_nil] at he;rw[he]
 ·have hy:=hp y (by simp);have hys:∀ z∈ys,CnOk n z:=fun z hz=>hp z (by simp [hz]);rw[zcI] at he;rw[zcH] at hs;have hyl:=zhZ ys
  have dec:∀(A:AS)(zs:List PV),A.rho[2]?=some (some (Sl.own q (OC.lst (ys.map pCn++zs))))->(fls zs).length<(fl (pCn y)).length->mu A<mu ⟨B',[some (.val (pCn c)),some (.own p (.lst acc)),some (.own q (.lst ((ys++[y]).map pCn))),o],none⟩:=fun A zs e hl=>by
   show(match A.rho[2]? with|some (some (Sl.own _ (OC.lst xs)))=>(fls xs).length|_=>0)<(fls ((ys++[y]).map pCn)).length;rw[e,List.map_append,List.map_cons,List.map_nil,zbT,List.length_append];show(fls (ys.map pCn++zs)).length<_;rw[zdO,List.length_append];omega
  have dec0:∀ A:AS,A.rho[2]?=some (some (Sl.own q (OC.lst (ys.map pCn))))->mu A<mu ⟨B',[some (.val (pCn c)),some (.own p (.lst acc)),some (.own q (.lst ((ys++[y]).map pCn))),o],none⟩:=fun A e=>dec A [] (by rw[List.append_nil];exact e) (by cases y<;>simp [pCn,fl,fls]);walk_at "";rw[if_pos (by simp)];refine⟨ys.map pCn,pCn y,by rw[List.map_append];rfl,?_⟩
  cases y with
  |yes=>
   simp only[pCn];walk_at "";refine cifF (by decide +kernel) ?_;walk_at "";refine cifT (by decide +kernel) ?_;walk_at "";exact⟨⟨acc,ys,_,rfl,hys,he,by omega⟩,dec0 _ rfl⟩
  |both l r=>
   simp only[pCn];walk_at "";refine cifT (by decide +kernel) ?_;walk_at ""
   have hlr:CnOk n l/\CnOk n r:=by
    cases n with
    |zero=>exact hy.elim
    |succ m=>exact⟨hy.1.mono (Nat.le_succ m),hy.2.mono (Nat.le_succ m)⟩
   have hs':1+cz l+cz r+czs ys<=cz c:=hs;clear hs;refine⟨by simp only[List.length_map,List.length_cons,List.length_nil];omega,⟨acc,ys++[r,l],_,by rw[List.map_append];rfl,fun z hz=>?_,?_,?_⟩,dec _ [pCn r,pCn l] rfl ?_⟩
   ·rcases List.mem_append.mp hz with h|h
    ·exact hys z h
    ·simp only[List.mem_cons,List.not_mem_nil,or_false] at h;rcases h with rfl|rfl
     ·exact hlr.2
     ·exact hlr.1
   ·rw[<- he,show ys++[r,l]=(ys++[r])++[l] by simp,zcI,zcI,cj,List.append_assoc (cj l)]
   ·rw[show ys++[r,l]=(ys++[r])++[l] by simp,zcH,zcH];omega
   ·simp only[pCn,fl,fls,List.length_cons,List.length_append,List.length_nil,List.nil_append];omega
  |one t xs=>
   have ho:OnOk t xs:=by cases n<;>exact hy
   simp only[pCn];walk_at "";refine cifF (by simpa using ho.1.1) ?_;walk_at "";refine cifF (by simpa using ho.1.2) ?_;walk_at "";exact⟨by omega,⟨acc++[.tup (.str t::xs)],ys,_,rfl,hys,by rw[<- he,cj,List.append_assoc],by omega⟩,dec0 _ rfl⟩
end
open PySem L2 ST
def Nz (st:SSt)(c:Nat)(st':SSt):Prop:=∃(n:Nat)(nm pt:Int),n<=st.n+c/\st'=⟨st.d,st.a,n,{ st.b with nm:=nm,pt:=pt }⟩
def tNew (st:SSt)(Q:PV->SSt->Prop):Prop:=WdOk st.b/\∀(z:Str)(st':SSt),z.length<=6->Nz st 0 st'->Q (.str z) st'
theorem zdT (a b:Str):(a++b).length=a.length+b.length:=by
 show(a.cps++b.cps).size=_;rw[Array.size_append];rfl
def DD (n:Nat)(kvs:List (PV×PV)):Prop:=kvs.length<=n/\∀ kv∈kvs,∃(z k:Str)(m:Bool),kv=(.str z,.tup [.str k,.bl m])
def kd (kvs:List (PV×PV))(z:Str):Str:=match dlook kvs (.inr z) with
 |some (.tup [.str k,_])=>k
 |_=>""
def md (kvs:List (PV×PV))(z:Str):Bool:=match dlook kvs (.inr z) with
 |some (.tup [_,.bl m])=>m
 |_=>false
def Has (kvs:List (PV×PV))(z:Str):Prop:=dlook kvs (.inr z)=some (.tup [.str (kd kvs z),.bl (md kvs z)])
theorem zoW {n:Nat}:∀{kvs:List (PV×PV)},DD n kvs->∀ z:Str,.str z∈kvs.map Prod.fst->Has kvs z:=by
 intro kvs h z hz
 have:∃ k m,dlook kvs (.inr z)=some (.tup [.str k,.bl m]):=by
  have h2:=h.2;clear h
  induction kvs with
  |nil=>cases hz
  |cons kv r ih=>
   obtain⟨y,k,m,rfl⟩:=h2 kv List.mem_cons_self;by_cases e:y=z
   ·subst e;exact⟨k,m,by simp [dlook,pk]⟩
   ·have hz':PV.str z∈r.map Prod.fst:=by
     rcases List.mem_cons.mp hz with q|q
     ·exact absurd (by injection q with q;exact q.symm) e
     ·exact q
    obtain⟨k',m',q⟩:=ih hz' fun kv' hk=>h2 kv' (List.mem_cons_of_mem _ hk);refine⟨k',m',?_⟩;show(if pk (.str y)=some (.inr z) then _ else dlook r (.inr z))=_;rw[if_neg (by simp [pk,e])];exact q
 obtain⟨k,m,e⟩:=this;unfold Has kd md;rw[e]
theorem zbg {n:Nat}{kvs:List (PV×PV)}(h:DD n kvs):∃ zs:List Str,kvs.map Prod.fst=zs.map PV.str/\zs.length=kvs.length/\∀ z∈zs,Has kvs z:=by
 have:∃ zs:List Str,kvs.map Prod.fst=zs.map PV.str/\zs.length=kvs.length:=by
  have h2:=h.2;clear h
  induction kvs with
  |nil=>exact⟨[],rfl,rfl⟩
  |cons kv r ih=>
   obtain⟨y,k,m,rfl⟩:=h2 kv List.mem_cons_self;obtain⟨zs,e1,e2⟩:=ih fun kv' hk=>h2 kv' (List.mem_cons_of_mem _ hk);exact⟨y::zs,by simp [e1],by simp [e2]⟩
 obtain⟨zs,e1,e2⟩:=this;exact⟨zs,e1,e2,fun z hz=>zoW h z (by rw[e1];exact List.mem_map.mpr ⟨z,hz,rfl⟩)⟩
theorem DD.put {n:Nat}{kvs:List (PV×PV)}(h:DD n kvs)(z k:Str)(m:Bool):DD (n+1) (dput' kvs (.inr z) (.tup [.str k,.bl m]))/\dput' kvs (.inr z) (.tup [.str k,.bl m])≠[]:=by
 refine⟨⟨Nat.le_trans zfE (Nat.succ_le_succ h.1),fun kv hk=>?_⟩,fun e=>?_⟩
 ·unfold dput' at hk
  split at hk
  ·obtain⟨kv',h1,rfl⟩:=List.mem_map.mp hk;obtain⟨y,k',m',rfl⟩:=h.2 kv' h1
   split
   ·exact⟨y,k,m,rfl⟩
   ·exact⟨y,k',m',rfl⟩
  ·rcases List.mem_append.mp hk with q|q
   ·exact h.2 kv q
   ·rw[List.mem_singleton.mp q];exact⟨z,k,m,rfl⟩
 ·have:=zeC (kvs:=kvs) (k:=.inr z) (v:=.tup [.str k,.bl m]) (.inr z);rw[e,if_pos rfl] at this;cases this
theorem DD.mono {n m:Nat}{kvs:List (PV×PV)}(h:DD n kvs)(l:n<=m):DD m kvs:=⟨Nat.le_trans h.1 l,h.2⟩
theorem DD.merge {m:Nat}:∀{more kvs:List (PV×PV)}{n:Nat},DD n kvs->DD m more->DD (n+more.length) (mergeP kvs more)/\(kvs≠[]->mergeP kvs more≠[])
 |[],kvs,n,h,_=>⟨h,id⟩
 |kv::more,kvs,n,h,g=>by
  obtain⟨z,k,b,rfl⟩:=g.2 _ List.mem_cons_self;have p:=h.put z k b;have q:=DD.merge (more:=more) p.1 ⟨Nat.le_trans (Nat.le_succ _) g.1,fun kv' hk=>g.2 kv' (List.mem_cons_of_mem _ hk)⟩;refine⟨?_,fun _=>q.2 p.2⟩;have e:n+(more.length+1)=n+1+more.length:=by omega
  show DD (n+(more.length+1)) _;rw[e];exact q.1
def Frm (x:PV):Prop:=∃(ts:List Tab)(y:PV),x=.tup [.tup (ts.map pT),y]/\ts≠[]/\ts.length<=3/\∀ t∈ts,t.cs≠[]/\t.cs.length<=3/\∀ c∈t.cs,c.n.length<=10
def tPart (x:PV)(st:SSt)(Q:PV->SSt->Prop):Prop:=Frm x/\WdOk st.b/\st.n<=90000/\∀(u v:Str)(kvs:List (PV×PV))(st':SSt),DD 3 kvs->kvs≠[]->Nz st 1 st'->Q (.tup [.tup [.str "table",.str u,.str v],.dic kvs,.int 4]) st'
section
variable {P:Program}{w:World}{K:Frag}{mg:Str->Option Value}{base:Heap}
theorem yaS:FnScope ["_law_state","_law_letters","_law_number"] ["_law_state"] (defScope zcl):=⟨rfl,rfl,rfl,by decide +kernel,rfl,by decide +kernel,by decide +kernel⟩
theorem zfX {k:Nat}(D:Df K mg "_law_new" zcl)(B:Bt mg)(yaw:Kn P w K mg base k "_law_word" (spS K false (Tr2 tWord))):Kn P w K mg base (k+1) "_law_new" (spS K false (Tr1 tNew)):=by
 refine D.okS yaS (fun _ _ _ _ _ _=>bd1 fun _=>rfl) (fun _ _ _=>Tr1.len) (by decide) (fun f cdv A outer s H E hr=>⟨_,(sc (s_st hr 0 4 (by decide) rfl (zbc rfl (qv (e_st hr 0 4 (by decide) (by decide) rfl)) (qv vi)))
  (sc (zam (i:=1) yaS.nd vs)
  (sc (zam (i:=2) yaS.nd (zbl (qv (e_st hr 0 4 (by decide) (by decide) rfl)) (qv vi)))
  (s1 (zak (zbc rfl (qv (zbc rfl (qv (zaa rfl yaw hr (ac (vn 0) (ac vi an)))) (qv (zae rfl hr (qn 1) (qv (zhO (qv (zqt (qn 2) (qv vi))) (qv vi))))))) (qv (zae rfl hr (qn 1) (qv (zhO (qn 2) (qv vi))))))))))),fun B' xs st Q h=>?_⟩)
 obtain⟨rfl,h⟩:=h;change (_:US) (endsS false Q) ⟨B',[some (.val (.raw (.ref st.d))),none,none],some st⟩;obtain⟨W,h⟩:=h;obtain⟨d,a,n,D⟩:=st;have W':WdOk D:=W;walk_at "";have r0:0<=(D.nm+1-1) / 26 % 26:=Int.emod_nonneg _ (by decide);have r1:(D.nm+1-1) / 26 % 26<26:=Int.emod_lt_of_pos _ (by decide);have q0:0<=(D.nm+1-1) % 26:=Int.emod_nonneg _ (by decide);have q1:(D.nm+1-1) % 26<26:=Int.emod_lt_of_pos _ (by decide);have W2:WdOk { nm:=D.nm+1,pt:=D.pt,x:=D.x,z:=D.z,y:=D.y,tb:=D.tb }:=W';have wl:=zfs W2 0;have x3:D.x.length<=3:=W'.1;generalize wordOf { nm:=D.nm+1,pt:=D.pt,x:=D.x,z:=D.z,y:=D.y,tb:=D.tb } 0=z at wl ⊢;have wl':z.length=D.x.length+1:=wl;refine⟨W2,by decide,zac _ ⟨by rw[zav];decide,_,zbV r0 (by rw[Array.getElem?_toList];exact zcU r0 r1),rfl⟩ ?_⟩;walk_at "";have n1:∀ c:Nat,(⟨#[c]⟩:Str).length=1:=fun _=>rfl;refine⟨by rw[n1];omega,zac _ ⟨by rw[zav];decide,_,zbV q0 (by rw[Array.getElem?_toList];exact zcU q0 q1),rfl⟩ ?_⟩;walk_at "";refine⟨by rw[n1,zdT,n1];omega,?_⟩;exact h _ _ (by rw[zdT,zdT,n1,n1];omega) ⟨n,D.nm+1,D.pt,Nat.le_refl _,rfl⟩
theorem yao:FnScope ["_law_state","_law_frame_here","_law_name","_law_fields","_law_keys_here","_law_word_here","_law_cols","_law_column","_law_kind_here","_law_maybe"] ["_law_state","_law_frame_here"] (defScope zbG):=⟨rfl,rfl,rfl,by decide +kernel,rfl,by decide +kernel,by decide +kernel⟩
theorem zfa {k:Nat}(D:Df K mg "_law_part" zbG)(B:Bt mg)(yap:Kn P w K mg base k "_law_new" (spS K false (Tr1 tNew)))(yaa:Kn P w K mg base k "_law_take" (spS K false (Tr2 zat))):Kn P w K mg base (k+1) "_law_part" (spS K false (Tr2 tPart)):=by
 refine D.okS yao (fun _ _ _ _ _ _=>bd2 fun _ _=>rfl) (fun _ _ _=>Tr2.len) (by decide) (fun f cdv A outer s H E hr=>⟨_,(sc (zcP (zae rfl hr (qv (zae rfl hr (qn 1) (qv vi))) (qv (zaa rfl yaa hr (ac (vn 0) (ac (zaW rfl B.len (qv (zae rfl hr (qn 1) (qv vi)))) an))))) (g_t (n:=3) rfl rfl (g_c (g_n (i:=2) yao.nd) (g_c (g_n (i:=3) yao.nd) (g_c (g_n (i:=4) yao.nd) g_0)))))
  (sc (s_st hr 0 5 (by decide) rfl (zbc rfl (qv (e_st hr 0 5 (by decide) (by decide) rfl)) (qv vi)))
  (sc (zam (i:=5) yao.nd (zaa rfl yap hr (ac (vn 0) an)))
  (sc (zaQ (i:=6) yao.nd ed0)
  (sc (zbC PassesOwn.never rfl (i_n rfl 3) (g_t (n:=3) rfl rfl (g_c (g_n (i:=7) yao.nd) (g_c (g_n (i:=8) yao.nd) (g_c (g_n (i:=9) yao.nd) g_0))))
  (s1 (zbQ hr 6 (et (ac (vn 8) (ac (vn 9) an))) (zbc rfl (qv (zbc rfl (qn 5) (qv vs))) (qn 7)))))
  (s1 (zak (et (ac (et (ac vs (ac (vn 2) (ac (vn 5) an)))) (ac (vn 6) (ac vi an))))))))))),fun B' xs st Q h=>?_⟩)
 obtain⟨x1,rfl,h⟩:=h;change (_:US) (endsS false Q) ⟨B',[some (.val (.raw (.ref st.d))),some (.val x1),none,none,none,none,none,none,none,none],some st⟩;obtain⟨⟨ts,y,rfl,ne,few,hT⟩,W,hn,h⟩:=h;obtain⟨d,a,n,D⟩:=st;have W':WdOk D:=W;have hn':n<=90000:=hn;clear hn;have n0:0<ts.length:=List.length_pos_iff.mpr ne;have lm:(ts.map pT).length=ts.length:=List.length_map ..;walk_at "";refine draw (by omega) (by omega) (Int.lt_of_le_of_lt (b:=900) (by omega) (by decide)) fun q q0 q1=>?_;have hq:q.toNat<ts.length:=by omega
 have ho:ts[q.toNat]∈ts:=List.getElem_mem hq;have eo:atI (ts.map pT) q=some (pT ts[q.toNat]):=zbV q0 (by rw[List.getElem?_map,List.getElem?_eq_getElem hq];rfl);generalize ts[q.toNat]=t at ho eo;obtain⟨t1,t2,t3⟩:=hT t ho;walk_at "";refine zac _ eo ?_;simp only[pT];walk_at "";refine⟨W',fun z st' hz hst=>?_⟩;obtain⟨m,nm,pt,hm,rfl⟩:=hst;have hm':m<=n+1+0:=hm;clear hm;simp only[SSt.d,SSt.a,SSt.b];walk_at "";intro p;have dot1:(".":Str).length=1:=by decide +kernel
 refine zcz t.cs pC (fun dd A=>∃(kvs:List (PV×PV))(o7 o8 o9:Option Sl),A=⟨B',[some (.val (.raw (.ref d))),some (.val (.tup [.tup (ts.map pT),y])),some (.val (.str t.n)),some (.val (.tup (t.cs.map pC))),some (.val (.tup (t.ks.map pS))),some (.val (.str z)),some (.own p (.dic kvs)),o7,o8,o9],some ⟨d,a,m,{ nm:=nm,pt:=pt,x:=D.x,z:=D.z,y:=D.y,tb:=D.tb }⟩⟩/\DD dd.length kvs/\(dd≠[]->kvs≠[])) ⟨[],none,none,none,rfl,⟨Nat.le_refl _,fun _ h=>by cases h⟩,fun h=>absurd rfl h⟩ (fun _ _ _=>trivial) ?_ ?_
 ·rintro dd x r A2 e ⟨kvs,o7,o8,o9,rfl,hd,_⟩;have hx:x∈t.cs:=by rw[e];simp
  have dl:dd.length<=3:=by
   rw[e,List.length_append] at t2;omega
  have sx:=t3 x hx;have kl:=hd.1;simp only[pC];walk_at "";have pp:=hd.put (z++"."++x.n) x.k x.m;refine⟨by rw[dot1];omega,by rw[zdT,dot1];omega,by omega,_,some (.val (.str x.n)),some (.val (.str x.k)),some (.val (.bl x.m)),rfl,?_,fun _=>pp.2⟩;rw[List.length_append];exact pp.1
 ·rintro A2 ⟨kvs,o7,o8,o9,rfl,hd,hne⟩;walk_at "";exact h _ _ kvs _ (hd.mono t2) (hne t1) ⟨m,nm,pt,(by show m<=n+1;omega),rfl⟩
end
open PySem L2 ST
theorem zaT {l:List PV}{r:Int}{Q:PV->AS->Prop}{A:AS}(r0:0<=r)(r1:r<(l.length:Int))(h:∀ z∈l,Q z A):ex1 (fun z=>atI l r=some z) Q A:=by
 have hr:r.toNat<l.length:=by omega
 exact zac l[r.toNat] (zbV r0 (List.getElem?_eq_getElem hr)) (h _ (List.getElem_mem hr))
theorem znJ (zs:List Str):gEq true (.lst (zs.map PV.str)) (.lst []) (.bl (!zs.isEmpty)):=by
 refine⟨⟨1,by decide,dp_l fun x hx=>by obtain⟨n,_,rfl⟩:=List.mem_map.mp hx;exact zbo _ _,dp_l fun x hx=>by cases hx⟩,?_⟩;cases zs<;>rfl
theorem zcM {α:Type}(l:List α)(f:α->Str):txs (l.map fun c=>PV.str (f c))=some (l.map f):=by
 have:=zgq (l.map f);rw[List.map_map] at this;exact this
inductive Su where
 |col (z:Str)
 |num (i:Int)
 |txt (z:Str)
 |nth (z:Str)
 |two (t:Str)(l r:Su)
def pSu:Su->PV
 |.col z=>.tup [.str "column",.str z]
 |.num i=>.tup [.str "number",.int i]
 |.txt z=>.tup [.str "text",.str z]
 |.nth z=>.tup [.str "nothing",.str z]
 |.two t l r=>.tup [.str t,pSu l,pSu r]
def SuOk (kvs:List (PV×PV)):Nat->Su->Prop
 |_,.col z=>Has kvs z
 |_,.num _=>True
 |_,.txt _=>True
 |_,.nth _=>True
 |0,.two _ _ _=>False
 |n+1,.two t l r=>(t="plus"\/t="minus"\/t="times")/\SuOk kvs n l/\SuOk kvs n r
def zS:Nat->Nat
 |0=>3
 |m+1=>3+2*zS m
theorem zfP:∀{kvs:List (PV×PV)}{m:Nat}{s:Su},SuOk kvs m s->Pn (m+1) (pSu s)/\(fl (pSu s)).length<=zS m
 |kvs,m,.col z,_=>⟨fun x hx=>by simp only[List.mem_cons,List.not_mem_nil,or_false] at hx;rcases hx with rfl|rfl<;>exact zaS _ _,by cases m<;>simp [pSu,fl,fls,zS]<;>omega⟩
 |kvs,m,.num i,_=>⟨fun x hx=>by simp only[List.mem_cons,List.not_mem_nil,or_false] at hx;rcases hx with rfl|rfl<;>first|exact zaS _ _|exact znj _ _,by cases m<;>simp [pSu,fl,fls,zS]<;>omega⟩
 |kvs,m,.txt z,_=>⟨fun x hx=>by simp only[List.mem_cons,List.not_mem_nil,or_false] at hx;rcases hx with rfl|rfl<;>exact zaS _ _,by cases m<;>simp [pSu,fl,fls,zS]<;>omega⟩
 |kvs,m,.nth z,_=>⟨fun x hx=>by simp only[List.mem_cons,List.not_mem_nil,or_false] at hx;rcases hx with rfl|rfl<;>exact zaS _ _,by cases m<;>simp [pSu,fl,fls,zS]<;>omega⟩
 |kvs,m+1,.two t l r,h=>by
  have a:=zfP h.2.1;have b:=zfP h.2.2;refine⟨fun x hx=>?_,?_⟩
  ·simp only[List.mem_cons,List.not_mem_nil,or_false] at hx;rcases hx with rfl|rfl|rfl
   ·exact zaS _ _
   ·exact a.1
   ·exact b.1
  ·simp only[pSu,fl,fls,zS,List.length_cons,List.length_append,List.length_nil,List.nil_append];omega
 |kvs,0,.two _ _ _,h=>h.elim
def tKind (x:PV)(st:SSt)(Q:PV->SSt->Prop):Prop:=∃ kvs,x=.dic kvs/\DD 50 kvs/\st.n<=90000/\∀(k:Str)(st':SSt),Nx st 1 st'->Q (.str k) st'
def tConst (x:PV)(st:SSt)(Q:PV->SSt->Prop):Prop:=∃ k:Str,x=.str k/\st.n<=90000/\∀(s:Su)(st':SSt),(∀ kvs m,SuOk kvs m s)->Nx st 2 st'->Q (pSu s) st'
def nS:Nat->Nat
 |0=>4
 |m+1=>4+2*nS m
def tSum:Nat->PV->PV->PV->SSt->(PV->SSt->Prop)->Prop
 |0,_,_,_,_,_=>False
 |m+1,x,y,z,st,Q=>∃(kvs:List (PV×PV))(k:Str),x=.dic kvs/\y=.str k/\z=.int (m:Nat)/\DD 50 kvs/\st.n+nS m<=90000/\∀(s:Su)(st':SSt),SuOk kvs m s->Nx st (nS m) st'->Q (pSu s) st'
def tSumL (m:Nat)(x y z:PV)(st:SSt)(Q:PV->SSt->Prop):Prop:=∃ j,j<=m/\tSum j x y z st Q
section
variable {P:Program}{w:World}{K:Frag}{mg:Str->Option Value}{base:Heap}
theorem ybe:FnScope ["_law_state","_law_cols","_law_kinds"] ["_law_state","_law_cols"] (defScope zbH):=⟨rfl,rfl,rfl,by decide +kernel,rfl,by decide +kernel,by decide +kernel⟩
theorem zfb {k:Nat}(D:Df K mg "_law_kind" zbH)(B:Bt mg)(yaa:Kn P w K mg base k "_law_take" (spS K false (Tr2 zat))):Kn P w K mg base (k+1) "_law_kind" (spS K false (Tr2 tKind)):=by
 refine D.okS ybe (fun _ _ _ _ _ _=>bd2 fun _ _=>rfl) (fun _ _ _=>Tr2.len) (by decide) (fun f cdv A outer s H E hr=>⟨_,(sc (zam (i:=2) ybe.nd (vf (zhQ (qf (zez rfl rfl B.sorted B.set (qf (zcu (N:=["_law_name","_law_cols"]) (k:=1) (ix:=[1]) cS rfl (i_n rfl 1) (fun _ _ _ _=>(g_n (i:=0) (by show(["_law_name","_law_cols"]:List Str).Nodup;decide +kernel))) (fun _ _ _ _=>f_0) (fun _ _ _ _=>(zae rfl hr (qv (zae rfl hr (qn 1) (qn 0))) (qv vi))))))) (qf (el (ac vs an))))))
  (s1 (zak (zae rfl hr (qn 2) (qv (zaa rfl yaa hr (ac (vn 0) (ac (zaW rfl B.len (qn 2)) an)))))))),fun B' xs st Q h=>?_⟩)
 obtain⟨x1,rfl,h⟩:=h;change (_:US) (endsS false Q) ⟨B',[some (.val (.raw (.ref st.d))),some (.val x1),none],some st⟩;obtain⟨kvs,rfl,ok,hn,h⟩:=h;obtain⟨d,a,n,D⟩:=st;have hn':n<=90000:=hn;clear hn;obtain⟨zs,ek,el,hz⟩:=zbg ok;have l3:=ok.1;walk_at "";rw[ek];refine zie zs (fun c=>.str c) (fun c=>.str (kd kvs c)) (by omega) ?_ ?_
 ·intro B x hx R hR;walk_at "";refine zac _ (hz x hx) ?_;walk_at "";exact hR _ ⟨rfl,rfl⟩ rfl
 walk_at "";have dl:=zfm (zs.map (kd kvs));rw[List.length_map] at dl;refine zac _ ⟨zs.map (kd kvs),zcM zs (kd kvs),by omega,by rw[List.length_map];omega,rfl⟩ ?_
 have sl:(sortS (ded (zs.map (kd kvs)))).length<=50:=by
  rw[(zaj _).length_eq];omega
 generalize sortS (ded (zs.map (kd kvs)))=ys at sl;walk_at "";have ll:(ys.map PV.str++[PV.str "number"]).length=ys.length+1:=by rw[List.length_append,List.length_map];rfl
 refine⟨by rw[List.length_map];omega,draw (by omega) (by omega) (Int.lt_of_le_of_lt (b:=900) (by omega) (by decide)) fun u u0 u1=>?_⟩;walk_at "";refine zaT u0 u1 fun x hx=>?_;walk_at "";rcases List.mem_append.mp hx with z|z
 ·obtain⟨y,hy,rfl⟩:=List.mem_map.mp z;exact h y ⟨d,a,n+1,D⟩ ⟨n+1,Nat.le_refl _,rfl⟩
 ·rw[List.mem_singleton.mp z];exact h "number" ⟨d,a,n+1,D⟩ ⟨n+1,Nat.le_refl _,rfl⟩
theorem zcv:FnScope ["_law_state","_law_kind_here"] ["_law_state","_law_kind_here"] (defScope zaO):=⟨rfl,rfl,rfl,by decide +kernel,rfl,by decide +kernel,by decide +kernel⟩
theorem zcV {k:Nat}(D:Df K mg "_law_constant" zaO)(B:Bt mg)(yaa:Kn P w K mg base k "_law_take" (spS K false (Tr2 zat))):Kn P w K mg base (k+1) "_law_constant" (spS K false (Tr2 tConst)):=by
 refine D.okS zcv (fun _ _ _ _ _ _=>bd2 fun _ _=>rfl) (fun _ _ _=>Tr2.len) (by decide) (fun f cdv A outer s H E hr=>⟨_,(sc (s_if (t_eq rfl hr (qv (zaa rfl yaa hr (ac (vn 0) (ac vi an)))) (qv vi)) (s1 (zak (et (ac vs (ac (vn 1) an))))) sn)
  (sc (s_if (t_eq rfl hr (qn 1) (qv vs)) (s1 (zak (et (ac vs (ac (zae rfl hr (qf (el (ac vs (ac vs (ac vs an))))) (qv (zaa rfl yaa hr (ac (vn 0) (ac vi an))))) an))))) sn)
  (s1 (zak (et (ac vs (ac (zae rfl hr (qf (el (ac vi (ac vi (ac vi (ac (zlP vi) an)))))) (qv (zaa rfl yaa hr (ac (vn 0) (ac vi an))))) an))))))),fun B' xs st Q h=>?_⟩)
 obtain⟨x1,rfl,h⟩:=h;change (_:US) (endsS false Q) ⟨B',[some (.val (.raw (.ref st.d))),some (.val x1)],some st⟩;obtain⟨k,rfl,hn,h⟩:=h;obtain⟨d,a,n,D⟩:=st;have hn':n<=90000:=hn;clear hn;walk_at "";refine draw (by omega) (by decide) (by decide) fun u u0 u1=>?_;walk_at "";refine zah (fun e=>?_) fun e=>?_
 ·walk_at "";exact h (.nth k) ⟨d,a,n+1,D⟩ (fun kvs m=>by cases m<;>trivial) ⟨n+1,(by show n+1<=n+2;omega),rfl⟩
 walk_at "";refine zah (fun e=>?_) fun e=>?_
 ·walk_at "";refine draw (by omega) (by decide) (by decide) fun v v0 v1=>?_;walk_at "";refine zaT v0 (by simpa using v1) fun x hx=>?_;walk_at "";simp only[List.mem_cons,List.not_mem_nil,or_false] at hx;rcases hx with rfl|rfl|rfl<;>exact h (.txt _) ⟨d,a,n+1+1,D⟩ (fun kvs m=>by cases m<;>trivial) ⟨n+1+1,Nat.le_refl _,rfl⟩
 walk_at "";refine draw (by omega) (by decide) (by decide) fun v v0 v1=>?_;walk_at "";refine zaT v0 (by simpa using v1) fun x hx=>?_;walk_at "";simp only[List.mem_cons,List.not_mem_nil,or_false] at hx;rcases hx with rfl|rfl|rfl|rfl<;>exact h (.num _) ⟨d,a,n+1+1,D⟩ (fun kvs m=>by cases m<;>trivial) ⟨n+1+1,Nat.le_refl _,rfl⟩
end
open PySem L2 ST
theorem zdA {c:Bool}{P Q:AS->Prop}{A:AS}(q:Q A)(p:c=true->Q A->P A):cif c P Q A:=zah (fun e=>p e q) fun _=>q
def tComp (x y:PV)(st:SSt)(Q:PV->SSt->Prop):Prop:=∃(kvs:List (PV×PV))(t:Str),x=.dic kvs/\y=.str t/\DD 50 kvs/\st.n<=80000/\∀(s1 s2:Su)(st':SSt),SuOk kvs 1 s1->SuOk kvs 1 s2->Nx st 30 st'->Q (.tup [.str t,pSu s1,pSu s2]) st'
theorem in3 (z:Str){b:Bool}(h:[("plus":Str),"minus","times"].contains z=b):gInA false (.str z) (.tup [.str "plus",.str "minus",.str "times"]) (.bl b):=by
 show gInA false (.str z) (.tup ([("plus":Str),"minus","times"].map PV.str)) (.bl b);rw[zhH,h,Bool.false_xor]
def mayB (kvs:List (PV×PV)):Su->Bool
 |.col z=>md kvs z
 |.two _ l r=>mayB kvs l||mayB kvs r
 |.nth _=>true
 |_=>false
def rMay:Nat->PV->PV->PV->Prop
 |0,_,_,_=>False
 |m+1,x,y,r=>∃(kvs:List (PV×PV))(s:Su),x=pSu s/\y=.dic kvs/\SuOk kvs m s/\r=.bl (mayB kvs s)
section
variable {P:Program}{w:World}{K:Frag}{mg:Str->Option Value}{base:Heap}
variable {m₀:Nat}
theorem yaz:FnScope ["_law_state","_law_cols","_law_kind_here","_law_deep","_law_names","_law_way","_law_word_here"] ["_law_state","_law_cols","_law_kind_here","_law_deep"] (defScope zck):=⟨rfl,rfl,rfl,by decide +kernel,rfl,by decide +kernel,by decide +kernel⟩
theorem zfW {k:Nat}(D:Df K mg "_law_sum" zck)(B:Bt mg)(yaa:Kn P w K mg base k "_law_take" (spS K false (Tr2 zat)))(yaP:Kn P w K mg base k "_law_constant" (spS K false (Tr2 tConst)))(yah:Kn P w K mg base k "_law_sum" (spS K false (Tr4 (tSumL m₀)))):Kn P w K mg base (k+1) "_law_sum" (spS K false (Tr4 (tSumL (m₀+1)))):=by
 refine D.okS yaz (fun _ _ _ _ _ _=>bd4 fun _ _ _ _=>rfl) (fun _ _ _=>Tr4.len) (by decide) (fun f cdv A outer s H E hr=>⟨_,(sc (zam (i:=4) yaz.nd (vf (zjs rfl B.sorted (qf (zcu (N:=["_law_name","_law_kind_here","_law_cols"]) (k:=1) (ix:=[2,1]) cS rfl (i_n rfl 1) (fun _ _ _ _=>(g_n (i:=0) (by show(["_law_name","_law_kind_here","_law_cols"]:List Str).Nodup;decide +kernel))) (fun _ _ _ _=>(f_1 (t_eq rfl hr (qv (zae rfl hr (qv (zae rfl hr (qn 2) (qn 0))) (qv vi))) (qn 1)))) (fun _ _ _ _=>(vn 0)))))))
  (sc (zam (i:=5) yaz.nd (zaa rfl yaa hr (ac (vn 0) (ac vi an))))
  (sc (s_if (PW.pt (zcL (t_eq rfl hr (qn 5) (qv vi)) (zcL (t_eq rfl hr (qn 2) (qv vs)) (zbO (t_gt (qn 3) (qv vi)))))) (sc (zam (i:=6) yaz.nd (zae rfl hr (qf (el (ac vs (ac vs (ac vs an))))) (qv (zaa rfl yaa hr (ac (vn 0) (ac vi an))))))
  (s1 (zak (et (ac (vn 6) (ac (zaa rfl yah hr (ac (vn 0) (ac (vn 1) (ac (vn 2) (ac (zbl (qn 3) (qv vi)) an))))) (ac (zaa rfl yah hr (ac (vn 0) (ac (vn 1) (ac (vn 2) (ac (zbl (qn 3) (qv vi)) an))))) an))))))) sn)
  (sc (s_if (PW.pt (zcL (t_ne rfl hr (qn 4) (qf (el an))) (zbO (t_lt (qn 5) (qv vi))))) (s1 (zak (et (ac vs (ac (zae rfl hr (qn 4) (qv (zaa rfl yaa hr (ac (vn 0) (ac (zaW rfl B.len (qn 4)) an))))) an))))) sn)
  (s1 (zak (zaa rfl yaP hr (ac (vn 0) (ac (vn 2) an))))))))),fun B' xs st Q h=>?_⟩)
 obtain⟨x1,x2,x3,rfl,h⟩:=h;change (_:US) (endsS false Q) ⟨B',[some (.val (.raw (.ref st.d))),some (.val x1),some (.val x2),some (.val x3),none,none,none],some st⟩;obtain⟨j,hj,h⟩:=h
 obtain⟨m,rfl⟩:∃ m,j=m+1:=by
  cases j with
  |zero=>exact h.elim
  |succ m=>exact⟨m,rfl⟩
 obtain⟨kvs,k,rfl,rfl,rfl,ok,hn,h⟩:=h;obtain⟨d,a,n,D⟩:=st;have hn':n+nS m<=90000:=hn;clear hn;have n4:4<=nS m:=by cases m<;>simp only[nS]<;>omega
 obtain⟨zs,ek,el,hz⟩:=zbg ok;have l3:=ok.1;walk_at "";rw[ek];refine zco zs (fun c=>.str c) (fun c=>.str c) (fun c=>kd kvs c==k) (by omega) ?_ ?_
 ·intro B x hx Rs Rn hs hn;walk_at "";refine zac _ (hz x hx) ?_;walk_at "";refine zah (fun e=>?_) fun e=>?_
  ·walk_at "";exact hs _ e ⟨rfl,rfl⟩ rfl
  ·exact hn _ e ⟨rfl,rfl⟩ rfl
 walk_at "";have fl:(zs.filter fun c=>kd kvs c==k).length<=50:=by have:=List.length_filter_le (fun c=>kd kvs c==k) zs;omega
 refine zac _ ⟨_,zgq (zs.filter fun c=>kd kvs c==k),by omega,rfl⟩ ?_;have all:∀ z∈sortS (zs.filter fun c=>kd kvs c==k),Has kvs z:=fun z hz'=>hz z (List.mem_filter.mp ((zaj _).mem_iff.mp hz')).1;have sl:(sortS (zs.filter fun c=>kd kvs c==k)).length<=50:=by rw[(zaj _).length_eq];exact fl
 generalize sortS (zs.filter fun c=>kd kvs c==k)=ys at all sl;walk_at "";refine draw (by omega) (by decide) (by decide) fun u u0 u1=>?_;walk_at "";refine zdA ?_ fun e tl=>?_
 ·walk_at "";refine zac (!ys.isEmpty) (znJ ys) ?_;refine zdA ?_ fun e3 tl=>?_
  ·walk_at "";refine⟨k,rfl,(by show n+1<=90000;omega),fun s st' hs hst=>?_⟩;obtain⟨m1,hm1,rfl⟩:=hst;have hm2:m1<=n+1+2:=hm1;walk_at "";exact h s ⟨d,a,m1,D⟩ (hs kvs m) ⟨m1,(by show m1<=n+nS m;omega),rfl⟩
  ·walk_at "";refine zah (fun e4=>?_) fun _=>tl
   have z0:0<ys.length:=by
    cases ys with
    |nil=>simp at e3
    |cons b l=>simp
   have zl:(ys.map PV.str).length=ys.length:=List.length_map ..;walk_at "";refine draw (by omega) (by omega) (Int.lt_of_le_of_lt (b:=900) (by omega) (by decide)) fun v v0 v1=>?_;walk_at "";refine zaT v0 v1 fun x hx=>?_;obtain⟨z,hz,rfl⟩:=List.mem_map.mp hx;walk_at "";exact h (.col z) ⟨d,a,n+1+1,D⟩ (by cases m<;>exact all z hz) ⟨n+1+1,(by show n+1+1<=n+nS m;omega),rfl⟩
 ·walk_at "";refine zah (fun e1=>?_) fun _=>tl;walk_at "";refine zah (fun e2=>?_) fun _=>tl;obtain⟨m',rfl⟩:∃ m',m=m'+1:=⟨m-1,by have:=of_decide_eq_true e2;omega⟩;have hn2:n+(4+2*nS m')<=90000:=hn';have e5:((m'+1:Nat):Int)-1=(m':Nat):=by omega
  clear tl;walk_at "";refine draw (by omega) (by decide) (by decide) fun v v0 v1=>?_;walk_at "";refine zaT v0 (by simpa using v1) fun x hx=>?_
  have wx:∃ t:Str,x=.str t/\(t="plus"\/t="minus"\/t="times"):=by
   simp only[List.mem_cons,List.not_mem_nil,or_false] at hx;rcases hx with rfl|rfl|rfl
   ·exact⟨_,rfl,.inl rfl⟩
   ·exact⟨_,rfl,.inr (.inl rfl)⟩
   ·exact⟨_,rfl,.inr (.inr rfl)⟩
  obtain⟨t,rfl,ht⟩:=wx;walk_at "";rw[e5];refine⟨m'+1,by omega,kvs,k,rfl,rfl,rfl,ok,(by show n+1+1+nS m'<=90000;omega),fun s1 st1 hs1 hst1=>?_⟩;obtain⟨m1,hm1,rfl⟩:=hst1;have hm1':m1<=n+1+1+nS m':=hm1;clear hm1;walk_at "";rw[e5];refine⟨m'+1,by omega,kvs,k,rfl,rfl,rfl,ok,(by show m1+nS m'<=90000;omega),fun s2 st2 hs2 hst2=>?_⟩;obtain⟨m2,hm2,rfl⟩:=hst2;have hm2':m2<=m1+nS m':=hm2;clear hm2;walk_at "";exact h (.two t s1 s2) ⟨d,a,m2,D⟩ ⟨ht,hs1,hs2⟩ ⟨m2,(by show m2<=n+(4+2*nS m');omega),rfl⟩
end
section
variable {P:Program}{w:World}{K:Frag}{mg:Str->Option Value}{base:Heap}
variable {m₀:Nat}
theorem zbB:FnScope ["_law_one","_law_cols"] ["_law_one","_law_cols"] (defScope zbj):=⟨rfl,rfl,rfl,by decide +kernel,rfl,by decide +kernel,by decide +kernel⟩
theorem zdN {k:Nat}(D:Df K mg "_law_may_be" zbj)(B:Bt mg)(yal:Kn P w K mg base k "_law_may_be" (spV K false (Rl2 (rMay m₀)))):Kn P w K mg base (k+1) "_law_may_be" (spV K false (Rl2 (rMay (m₀+1)))):=by
 refine D.okV zbB (fun _ _ _ _ _ _=>bd2 fun _ _=>rfl) (fun _ _=>Rl2.len) (by decide) (fun f cdv A outer s H E hr=>⟨_,(sc (s_if (t_eq rfl hr (qv (zae rfl hr (qn 0) (qv vi))) (qv vs)) (s1 (zak (zae rfl hr (qv (zae rfl hr (qn 1) (qv (zae rfl hr (qn 0) (qv vi))))) (qv vi)))) sn)
  (sc (s_if (zgw rfl hr (qv (zae rfl hr (qn 0) (qv vi))) (qv (et (ac vs (ac vs (ac vs an)))))) (s1 (zak (e_or (zaG rfl yal hr (ac (zae rfl hr (qn 0) (qv vi)) (ac (vn 1) an))) (zeA (zaG rfl yal hr (ac (zae rfl hr (qn 0) (qv vi)) (ac (vn 1) an))))))) sn)
  (s1 (zak (e_eq rfl hr (qv (zae rfl hr (qn 0) (qv vi))) (qv vs)))))),fun B' xs r h=>?_⟩)
 obtain⟨x0,x1,rfl,h⟩:=h;change (_:US) (endsV false r) ⟨B',[some (.val x0),some (.val x1)],none⟩;obtain⟨kvs,s,rfl,rfl,hs,rfl⟩:=h
 cases s with
 |col z=>
  have hz:Has kvs z:=by cases m₀<;>exact hs
  simp only[pSu];walk_at "";refine cifT (by decide +kernel) ?_;walk_at "";refine zac _ hz ?_;walk_at "";rfl
 |two t l r=>
  cases m₀ with
  |zero=>exact hs.elim
  |succ m=>
   obtain⟨ht,hl,hr'⟩:=hs;simp only[pSu];walk_at "";refine cifF (by rcases ht with rfl|rfl|rfl<;>decide +kernel) ?_;walk_at "";refine zac true (in3 t (by rcases ht with rfl|rfl|rfl<;>decide +kernel)) ?_;walk_at "";refine zac (.bl (mayB kvs l)) ⟨kvs,l,rfl,rfl,hl,rfl⟩ ?_;walk_at "";refine zah (fun e=>?_) fun e=>?_
   ·simp only[mayB,e,Bool.true_or]
   ·walk_at "";refine zac (.bl (mayB kvs r)) ⟨kvs,r,rfl,rfl,hr',rfl⟩ ?_;simp only[mayB,e,Bool.false_or]
 |num i=>
  simp only[pSu];walk_at "";refine cifF (by decide +kernel) ?_;walk_at "";refine zac false (in3 _ (by decide +kernel)) ?_;walk_at "";show _=(_:Bool);simp only[mayB];decide +kernel
 |txt i=>
  simp only[pSu];walk_at "";refine cifF (by decide +kernel) ?_;walk_at "";refine zac false (in3 _ (by decide +kernel)) ?_;walk_at "";show _=(_:Bool);simp only[mayB];decide +kernel
 |nth i=>
  simp only[pSu];walk_at "";refine cifF (by decide +kernel) ?_;walk_at "";refine zac false (in3 _ (by decide +kernel)) ?_;walk_at "";show _=(_:Bool);simp only[mayB];decide +kernel
theorem yaB:FnScope ["_law_state","_law_cols","_law_word_here","_law_kinds","_law_kind_here"] ["_law_state","_law_cols","_law_word_here"] (defScope zaP):=⟨rfl,rfl,rfl,by decide +kernel,rfl,by decide +kernel,by decide +kernel⟩
theorem zcW {k:Nat}(D:Df K mg "_law_compared" zaP)(B:Bt mg)(yaa:Kn P w K mg base k "_law_take" (spS K false (Tr2 zat)))(yah:Kn P w K mg base k "_law_sum" (spS K false (Tr4 (tSumL 3)))):Kn P w K mg base (k+1) "_law_compared" (spS K false (Tr3 tComp)):=by
 refine D.okS yaB (fun _ _ _ _ _ _=>bd3 fun _ _ _=>rfl) (fun _ _ _=>Tr3.len) (by decide) (fun f cdv A outer s H E hr=>⟨_,(sc (zam (i:=3) yaB.nd (vf (zhQ (qf (zez rfl rfl B.sorted B.set (qf (zcu (N:=["_law_name","_law_cols"]) (k:=1) (ix:=[1]) cS rfl (i_n rfl 1) (fun _ _ _ _=>(g_n (i:=0) (by show(["_law_name","_law_cols"]:List Str).Nodup;decide +kernel))) (fun _ _ _ _=>f_0) (fun _ _ _ _=>(zae rfl hr (qv (zae rfl hr (qn 1) (qn 0))) (qv vi))))))) (qf (el (ac vs an))))))
  (sc (zam (i:=4) yaB.nd (zae rfl hr (qn 3) (qv (zaa rfl yaa hr (ac (vn 0) (ac (zaW rfl B.len (qn 3)) an))))))
  (s1 (zak (et (ac (vn 2) (ac (zaa rfl yah hr (ac (vn 0) (ac (vn 1) (ac (vn 4) (ac vi an))))) (ac (zaa rfl yah hr (ac (vn 0) (ac (vn 1) (ac (vn 4) (ac vi an))))) an)))))))),fun B' xs st Q h=>?_⟩)
 obtain⟨x1,x2,rfl,h⟩:=h;change (_:US) (endsS false Q) ⟨B',[some (.val (.raw (.ref st.d))),some (.val x1),some (.val x2),none,none],some st⟩;obtain⟨kvs,t,rfl,rfl,ok,hn,h⟩:=h;obtain⟨d,a,n,D⟩:=st;have hn':n<=80000:=hn;clear hn;obtain⟨zs,ek,el,hz⟩:=zbg ok;have l3:=ok.1;walk_at "";rw[ek];refine zie zs (fun c=>.str c) (fun c=>.str (kd kvs c)) (by omega) ?_ ?_
 ·intro B x hx R hR;walk_at "";refine zac _ (hz x hx) ?_;walk_at "";exact hR _ ⟨rfl,rfl⟩ rfl
 walk_at "";have dl:=zfm (zs.map (kd kvs));rw[List.length_map] at dl;refine zac _ ⟨zs.map (kd kvs),zcM zs (kd kvs),by omega,by rw[List.length_map];omega,rfl⟩ ?_
 have sl:(sortS (ded (zs.map (kd kvs)))).length<=50:=by
  rw[(zaj _).length_eq];omega
 generalize sortS (ded (zs.map (kd kvs)))=ys at sl;walk_at "";have ll:(ys.map PV.str++[PV.str "number"]).length=ys.length+1:=by rw[List.length_append,List.length_map];rfl
 refine⟨by rw[List.length_map];omega,draw (by omega) (by omega) (Int.lt_of_le_of_lt (b:=900) (by omega) (by decide)) fun u u0 u1=>?_⟩;walk_at "";refine zaT u0 u1 fun x hx=>?_
 have wx:∃ k:Str,x=.str k:=by
  rcases List.mem_append.mp hx with z|z
  ·obtain⟨y,hy,rfl⟩:=List.mem_map.mp z;exact⟨y,rfl⟩
  ·exact⟨_,List.mem_singleton.mp z⟩
 obtain⟨k,rfl⟩:=wx;have e12:nS 1=12:=rfl;walk_at "";refine⟨2,by decide,kvs,k,rfl,rfl,rfl,ok,(by show n+1+nS 1<=90000;omega),fun s1 st1 hs1 hst1=>?_⟩;obtain⟨m1,hm1,rfl⟩:=hst1;have hm1':m1<=n+1+nS 1:=hm1;clear hm1;walk_at "";refine⟨2,by decide,kvs,k,rfl,rfl,rfl,ok,(by show m1+nS 1<=90000;omega),fun s2 st2 hs2 hst2=>?_⟩;obtain⟨m2,hm2,rfl⟩:=hst2;have hm2':m2<=m1+nS 1:=hm2;clear hm2;walk_at "";exact h s1 s2 ⟨d,a,m2,D⟩ hs1 hs2 ⟨m2,(by show m2<=n+30;omega),rfl⟩
end
open PySem L2 ST
def CcOk:Nat->Cn->Prop
 |0,c=>CnOk 0 c/\Pn 5 (pCn c)/\(fl (pCn c)).length<=30/\cz c<=1
 |_+1,c=>CnOk 1 c/\cz c<=3
theorem CcOk.up {n:Nat}{c:Cn}(h:CcOk n c):CcOk 1 c:=by
 cases n with
 |zero=>exact⟨h.1.mono (Nat.zero_le _),by have:=h.2.2.2;omega⟩
 |succ n=>exact h
def nC (deep:Nat):Nat:=40+80*deep
def tCond (m:Nat)(x y z:PV)(st:SSt)(Q:PV->SSt->Prop):Prop:=∃(deep:Nat)(kvs:List (PV×PV)),((deep=0/\1<=m)\/(deep=1/\2<=m))/\Frm x/\y=.dic kvs/\z=.int deep/\DD (40-10*deep) kvs/\WdOk st.b/\st.n<=71000-1000*deep/\∀(c:Cn)(st':SSt),CcOk deep c->Nz st (nC deep) st'->Q (pCn c) st'
def nA (deep:Nat):Nat:=5+300*deep
def tAsk (m:Nat)(x y:PV)(st:SSt)(Q:PV->SSt->Prop):Prop:=∃ deep:Nat,((deep=0/\1<=m)\/(deep=1/\5<=m))/\Frm x/\y=.int deep/\WdOk st.b/\st.n<=60000+15000*(1-deep)/\∀(u:PV)(kvs:List (PV×PV))(s:Int)(st':SSt),(deep=0->(∃ a b:Str,u=.tup [.str "table",.str a,.str b])/\s=4)->DD (3+6*deep) kvs->kvs≠[]->Nz st (nA deep) st'->Q (.tup [u,.dic kvs,.int s]) st'
theorem zhj {t:Str}{xs:List PV}(h1:t≠"both")(h2:t≠"yes")(h3:∀ x∈xs,Pn 9 x)(h4:(fls xs).length<=190):CnOk 1 (.one t xs):=⟨⟨h1,h2⟩,h3,by simp only[fl,fls,List.length_cons,List.length_append,List.length_nil];omega⟩
theorem one0 {t:Str}{xs:List PV}(h1:t≠"both")(h2:t≠"yes")(h3:∀ x∈xs,Pn 4 x)(h4:(fls xs).length<=28):CcOk 0 (.one t xs):=by
 have hl:(fl (.tup (.str t::xs))).length<=30:=by simp only[fl,fls,List.length_cons,List.length_append,List.length_nil];omega
 refine⟨⟨⟨h1,h2⟩,fun x hx=>(h3 x hx).mono (by decide),by omega⟩,fun y hy=>?_,hl,Nat.le_refl _⟩;rcases List.mem_cons.mp hy with e|e
 ·rw[e];exact zaS _ _
 ·exact h3 y e
section
variable {P:Program}{w:World}{K:Frag}{mg:Str->Option Value}{base:Heap}
variable {m₀:Nat}
theorem yas:FnScope ["_law_state","_law_frame_here","_law_cols","_law_deep","_law_way","_law_ask_here","_law_more","_law_size","_law_both_here","_law_one"] ["_law_state","_law_frame_here","_law_cols","_law_deep"] (defScope zbK):=⟨rfl,rfl,rfl,by decide +kernel,rfl,by decide +kernel,by decide +kernel⟩
theorem zfe {k:Nat}(D:Df K mg "_law_cond" zbK)(B:Bt mg)(yaa:Kn P w K mg base k "_law_take" (spS K false (Tr2 zat)))(yaQ:Kn P w K mg base k "_law_compared" (spS K false (Tr3 tComp)))(yac:Kn P w K mg base k "_law_ask" (spS K false (Tr3 (tAsk m₀))))(yad:Kn P w K mg base k "_law_cond" (spS K false (Tr4 (tCond m₀))))(yah:Kn P w K mg base k "_law_sum" (spS K false (Tr4 (tSumL 3))))(yaA:Kn P w K mg base k "_law_kind" (spS K false (Tr2 tKind))):Kn P w K mg base (k+1) "_law_cond" (spS K false (Tr4 (tCond (m₀+1)))):=by
 refine D.okS yas (fun _ _ _ _ _ _=>bd4 fun _ _ _ _=>rfl) (fun _ _ _=>Tr4.len) (by decide) (fun f cdv A outer s H E hr=>⟨_,(sc (zam (i:=4) yas.nd (zaa rfl yaa hr (ac (vn 0) (ac vi an))))
  (sc (s_if (PW.pt (zcL (t_gt (qn 3) (qv vi)) (zcL (t_eq rfl hr (qn 4) (qv vi)) (zbO (t_lt (qv (e_st hr 0 5 (by decide) (by decide) rfl)) (qv vi)))))) (sc (zcP (zaa rfl yac hr (ac (vn 0) (ac (vn 1) (ac (zlQ rfl B.min (qv vi) (qv (zbl (qn 3) (qv vi)))) an)))) (g_t (n:=3) rfl rfl (g_c (g_n (i:=5) yas.nd) (g_c (g_n (i:=6) yas.nd) (g_c (g_n (i:=7) yas.nd) g_0)))))
  (sc (zaQ (i:=8) yas.nd (zfl rfl rfl B.dict (qn 2)))
  (sc (zax (zoL rfl 8 (vn 6)))
  (s1 (zak (et (ac vs (ac (vn 5) (ac (zaa rfl yad hr (ac (vn 0) (ac (vn 1) (ac (vn 8) (ac (zbl (qn 3) (qv vi)) an))))) an))))))))) sn)
  (sc (s_if (PW.pt (zcL (t_gt (qn 3) (qv vi)) (zbO (t_eq rfl hr (qn 4) (qv vi))))) (s1 (zak (et (ac vs (ac (zaa rfl yad hr (ac (vn 0) (ac (vn 1) (ac (vn 2) (ac (zbl (qn 3) (qv vi)) an))))) an))))) sn)
  (sc (s_if (PW.pt (zcL (t_gt (qn 3) (qv vi)) (zbO (t_gt (qn 4) (qv vi))))) (sc (zam (i:=9) yas.nd (zaa rfl yad hr (ac (vn 0) (ac (vn 1) (ac (vn 2) (ac (zbl (qn 3) (qv vi)) an))))))
  (s1 (zak (et (ac (zae rfl hr (qf (el (ac vs (ac vs an)))) (qv (zhO (qn 4) (qv vi)))) (ac (vn 9) (ac (zaa rfl yad hr (ac (vn 0) (ac (vn 1) (ac (vn 2) (ac (zbl (qn 3) (qv vi)) an))))) an))))))) sn)
  (sc (s_if (t_eq rfl hr (qn 4) (qv vi)) (s1 (zak (et (ac vs (ac (zaa rfl yah hr (ac (vn 0) (ac (vn 2) (ac (zaa rfl yaA hr (ac (vn 0) (ac (vn 2) an))) (ac vi an))))) an))))) sn)
  (sc (s_if (t_eq rfl hr (qn 4) (qv vi)) (s1 (zak (et (ac vs an)))) sn)
  (s1 (zak (zaa rfl yaQ hr (ac (vn 0) (ac (vn 2) (ac (zae rfl hr (qf (el (ac vs (ac vs (ac vs an))))) (qv (zhO (qn 4) (qv vi)))) an)))))))))))),fun B' xs st Q h=>?_⟩)
 obtain⟨x1,x2,x3,rfl,h⟩:=h;change (_:US) (endsS false Q) ⟨B',[some (.val (.raw (.ref st.d))),some (.val x1),some (.val x2),some (.val x3),none,none,none,none,none,none],some st⟩;obtain⟨deep,kvs,hd,F,rfl,rfl,ok,W,hn,h⟩:=h;obtain⟨d,a,n,D⟩:=st;have W':WdOk D:=W;have hn1:n<=71000-1000*deep:=hn;have hn':n<=71000:=by omega
 have ok5:DD 50 kvs:=ok.mono (by omega);have e12:nS 1=12:=rfl;have e9:zS 1=9:=rfl;walk_at "";refine draw (by omega) (by decide) (by decide) fun u u0 u1=>?_;walk_at ""
 have fin0:∀(c:Cn)(m:Nat)(nm pt:Int),CcOk 0 c->m<=n+40->Q (pCn c) ⟨d,a,m,{ nm:=nm,pt:=pt,x:=D.x,z:=D.z,y:=D.y,tb:=D.tb }⟩:=fun c m nm pt hc hm=>by
  rcases hd with ⟨rfl,_⟩|⟨rfl,_⟩
  ·exact h c _ hc ⟨m,nm,pt,hm,rfl⟩
  ·exact h c _ hc.up ⟨m,nm,pt,(by show m<=n+120;omega),rfl⟩
 refine zdA ?_ fun e tl=>?_
 ·walk_at "";refine zdA ?_ fun e tl=>?_
  ·walk_at "";refine zdA ?_ fun e tl=>?_
   ·walk_at "";refine zah (fun e=>?_) fun e=>?_
    ·walk_at "";refine⟨kvs,rfl,ok5,(by show n+1<=90000;omega),fun k st1 hst1=>?_⟩;obtain⟨m1,hm1,rfl⟩:=hst1;have hm1':m1<=n+1+1:=hm1;clear hm1;walk_at "";refine⟨2,by decide,kvs,k,rfl,rfl,rfl,ok5,(by show m1+nS 1<=90000;omega),fun s1 st2 hs1 hst2=>?_⟩;obtain⟨m2,hm2,rfl⟩:=hst2;have hm2':m2<=m1+nS 1:=hm2;clear hm2;obtain⟨p1,p2⟩:=zfP (m:=1) hs1;walk_at "";exact fin0 (.one "isnothing" [pSu s1]) m2 D.nm D.pt (one0 (by decide) (by decide) (fun x hx=>by rw[List.mem_singleton.mp hx];exact p1.mono (by decide)) (by simp only[fls,List.nil_append];omega)) (by omega)
    ·walk_at "";refine zah (fun e=>?_) fun e=>?_
     ·walk_at "";exact fin0 .yes (n+1) D.nm D.pt ⟨trivial,fun x hx=>by rw[List.mem_singleton.mp hx];exact zaS _ _,by decide,Nat.le_refl _⟩ (by omega)
     ·have m0:0<=u % 3:=Int.emod_nonneg _ (by decide);have m1:u % 3<3:=Int.emod_lt_of_pos _ (by decide);walk_at "";refine zaT m0 (by simpa using m1) fun x hx=>?_
      have wx:∃ t:Str,x=.str t/\t≠"both"/\t≠"yes":=by
       simp only[List.mem_cons,List.not_mem_nil,or_false] at hx;rcases hx with rfl|rfl|rfl<;>exact⟨_,rfl,by decide,by decide⟩
      obtain⟨t,rfl,t1,t2⟩:=wx;walk_at "";refine⟨kvs,t,rfl,rfl,ok5,(by show n+1<=80000;omega),fun s1 s2 st1 hs1 hs2 hst1=>?_⟩;obtain⟨m2,hm2,rfl⟩:=hst1;have hm2':m2<=n+1+30:=hm2;clear hm2;obtain⟨p1,p2⟩:=zfP hs1;obtain⟨q1,q2⟩:=zfP hs2;walk_at "";exact fin0 (.one t [pSu s1,pSu s2]) m2 D.nm D.pt (one0 t1 t2 (fun x hx=>by simp only[List.mem_cons,List.not_mem_nil,or_false] at hx;rcases hx with rfl|rfl;exact p1.mono (by decide);exact q1.mono (by decide)) (by simp only[fls,List.nil_append,List.length_append];omega)) (by omega)
   ·have hd1:deep=1/\2<=m₀+1:=by
     rcases hd with ⟨rfl,_⟩|z
     ·simp at e
     ·exact z
    obtain⟨rfl,hm0⟩:=hd1;walk_at "";refine zah (fun e=>?_) fun _=>tl;clear tl;walk_at "";refine⟨0,kvs,.inl ⟨rfl,by omega⟩,F,rfl,rfl,ok.mono (by decide),W',(by show n+1<=71000;omega),fun c1 st1 hc1 hst1=>?_⟩;obtain⟨m1,nm,pt,hm1,rfl⟩:=hst1;have hm1':m1<=n+1+40:=hm1;clear hm1;have v0:0<=u % 2:=Int.emod_nonneg _ (by decide);have v1:u % 2<2:=Int.emod_lt_of_pos _ (by decide);simp only[SSt.d,SSt.a,SSt.b];walk_at "";refine zaT v0 (by simpa using v1) fun x hx=>?_
    have wx:∃ t:Str,x=.str t/\∀ c2,CcOk 0 c2->∃ c,CcOk 1 c/\pCn c=.tup [.str t,pCn c1,pCn c2]:=by
     simp only[List.mem_cons,List.not_mem_nil,or_false] at hx;rcases hx with rfl|rfl
     ·exact⟨_,rfl,fun c2 hc2=>⟨.both c1 c2,⟨⟨hc1.1,hc2.1⟩,by have:=hc1.2.2.2;have:=hc2.2.2.2;simp only[cz];omega⟩,rfl⟩⟩
     ·refine⟨_,rfl,fun c2 hc2=>⟨.one "either" [pCn c1,pCn c2],⟨zhj (by decide) (by decide) (fun x hx=>?_) ?_,(by show 1<=3;decide)⟩,rfl⟩⟩
      ·simp only[List.mem_cons,List.not_mem_nil,or_false] at hx;rcases hx with rfl|rfl
       ·exact hc1.2.1.mono (by decide)
       ·exact hc2.2.1.mono (by decide)
      ·have:=hc1.2.2.1;have:=hc2.2.2.1;simp only[fls,List.nil_append,List.length_append];omega
    obtain⟨t,rfl,ht⟩:=wx;walk_at "";refine⟨0,kvs,.inl ⟨rfl,by omega⟩,F,rfl,rfl,ok.mono (by decide),W',(by show m1<=71000;omega),fun c2 st2 hc2 hst2=>?_⟩;obtain⟨m2,nm2,pt2,hm2,rfl⟩:=hst2;have hm2':m2<=m1+40:=hm2;clear hm2;simp only[SSt.d,SSt.a,SSt.b];walk_at "";obtain⟨c,c3,c4⟩:=ht c2 hc2;rw[<- c4];exact h c _ c3 ⟨m2,nm2,pt2,(by show m2<=n+120;omega),rfl⟩
  ·have hd1:deep=1/\2<=m₀+1:=by
    rcases hd with ⟨rfl,_⟩|z
    ·simp at e
    ·exact z
   obtain⟨rfl,hm0⟩:=hd1;walk_at "";refine zah (fun e=>?_) fun _=>tl;clear tl;walk_at "";refine⟨0,kvs,.inl ⟨rfl,by omega⟩,F,rfl,rfl,ok.mono (by decide),W',(by show n+1<=71000;omega),fun c1 st1 hc1 hst1=>?_⟩;obtain⟨m1,nm,pt,hm1,rfl⟩:=hst1;have hm1':m1<=n+1+40:=hm1;clear hm1;simp only[SSt.d,SSt.a,SSt.b];walk_at "";exact h (.one "not" [pCn c1]) _ ⟨zhj (by decide) (by decide) (fun x hx=>by rw[List.mem_singleton.mp hx];exact hc1.2.1.mono (by decide)) (by simp only[fls,List.nil_append];have:=hc1.2.2.1;omega),(by show 1<=3;decide)⟩ ⟨m1,nm,pt,(by show m1<=n+120;omega),rfl⟩
 ·have hd1:deep=1/\2<=m₀+1:=by
   rcases hd with ⟨rfl,_⟩|z
   ·simp at e
   ·exact z
  obtain⟨rfl,hm0⟩:=hd1;walk_at "";refine zah (fun e=>?_) fun _=>tl;walk_at "";refine zah (fun e=>?_) fun _=>tl;clear tl;walk_at "";refine⟨0,.inl ⟨rfl,by omega⟩,F,rfl,W',(by show n+1<=75000;omega),fun au kvs2 sz st1 hu hk hne hst1=>?_⟩;obtain⟨⟨a1,a2,rfl⟩,_⟩:=hu rfl;obtain⟨m1,nm,pt,hm1,rfl⟩:=hst1;have hm1':m1<=n+1+5:=hm1;clear hm1;simp only[SSt.d,SSt.a,SSt.b];walk_at "";intro p;have k1:=ok.1;have k2:=hk.1;have mg:=(DD.merge ok hk).1;refine⟨kvs2,rfl,by omega,?_⟩;refine⟨0,_,.inl ⟨rfl,by omega⟩,F,rfl,rfl,mg.mono (by omega),W',(by show m1<=71000;omega),fun c2 st2 hc2 hst2=>?_⟩;obtain⟨m2,nm2,pt2,hm2,rfl⟩:=hst2;have hm2':m2<=m1+40:=hm2;clear hm2;simp only[SSt.d,SSt.a,SSt.b];walk_at "";refine h (.one "some" [.tup [.str "table",.str a1,.str a2],pCn c2]) _ ⟨zhj (by decide) (by decide) (fun x hx=>?_) ?_,(by show 1<=3;decide)⟩ ⟨m2,nm2,pt2,(by show m2<=n+120;omega),rfl⟩
  ·simp only[List.mem_cons,List.not_mem_nil,or_false] at hx;rcases hx with rfl|rfl
   ·intro y hy;simp only[List.mem_cons,List.not_mem_nil,or_false] at hy;rcases hy with rfl|rfl|rfl<;>exact zaS _ _
   ·exact hc2.2.1.mono (by decide)
  ·have:=hc2.2.2.1;simp only[fl,fls,List.nil_append,List.length_append,List.length_cons,List.length_nil];omega
end
open PySem L2 ST
def tKeys (x:PV)(st:SSt)(Q:PV->SSt->Prop):Prop:=∃ kvs,x=.dic kvs/\DD 20 kvs/\st.n<=80000/\∀(r:PV)(st':SSt),Nx st 50 st'->Q r st'
def tShown (m:Nat)(x y:PV)(st:SSt)(Q:PV->SSt->Prop):Prop:=2<=m/\Frm x/\y=.int (0:Nat)/\WdOk st.b/\st.n<=70000/\∀(u:PV)(kvs:List (PV×PV))(s:Int)(st':SSt),DD 9 kvs->kvs≠[]->Nz st 200 st'->Q (.tup [u,.dic kvs,.int s]) st'
theorem zfo {M:List PV}{u:Int}(h0:0<=u)(h1:u<=M.length):(cutP M (some u) none).length+(cutP M none (some u)).length=M.length:=by
 rw[zbA h0 h1,zfH h0 h1,List.length_drop,List.length_take];omega
theorem zgX (z:Str){x:PV}(h:Pn 3 x):Pn 4 (.tup [.str z,x]):=fun y hy=>by
 simp only[List.mem_cons,List.not_mem_nil,or_false] at hy;rcases hy with rfl|rfl
 ·exact zaS _ _
 ·exact h
theorem zgW {n:Nat}{M:List PV}{x:PV}(h:∀ y∈M,Pn n y)(hx:Pn n x):∀ y∈M++[x],Pn n y:=fun y hy=>by
 rcases List.mem_append.mp hy with e|e
 ·exact h y e
 ·rw[List.mem_singleton.mp e];exact hx
section
variable {P:Program}{w:World}{K:Frag}{mg:Str->Option Value}{base:Heap}
theorem yaG:FnScope ["_law_state","_law_cols","_law_left","_law_keys_here","_law_k"] ["_law_state","_law_cols"] (defScope zbI):=⟨rfl,rfl,rfl,by decide +kernel,rfl,by decide +kernel,by decide +kernel⟩
theorem zfc {k:Nat}(D:Df K mg "_law_keys" zbI)(B:Bt mg)(yaa:Kn P w K mg base k "_law_take" (spS K false (Tr2 zat))):Kn P w K mg base (k+1) "_law_keys" (spS K false (Tr2 tKeys)):=by
 refine D.okS yaG (fun _ _ _ _ _ _=>bd2 fun _ _=>rfl) (fun _ _ _=>Tr2.len) (by decide) (fun f cdv A outer s H E hr=>⟨_,(sc (zaQ (i:=2) yaG.nd (zcg rfl rfl B.sorted (qn 1)))
  (sc (zaQ (i:=3) yaG.nd (el an))
  (sc (zbC PassesOwn.never rfl (zga (by rfl) B.range (zlQ rfl B.min (qv (zaW rfl B.len (qn 2))) (qv (zaa rfl yaa hr (ac (vn 0) (ac vi an)))))) (g_n (i:=4) yaG.nd)
  (s1 (zax (zbU rfl 3 (et (ac (zlO rfl 2 (zaa rfl yaa hr (ac (vn 0) (ac (zaW rfl B.len (qn 2)) an)))) (ac (zae rfl hr (qf (el (ac vs (ac vs an)))) (qv (zaa rfl yaa hr (ac (vn 0) (ac vi an))))) an)))))))
  (s1 (zak (zaN rfl B.tuple (qn 3))))))),fun B' xs st Q h=>?_⟩)
 obtain⟨x1,rfl,h⟩:=h;change (_:US) (endsS false Q) ⟨B',[some (.val (.raw (.ref st.d))),some (.val x1),none,none,none],some st⟩;obtain⟨kvs,rfl,ok,hn,h⟩:=h;obtain⟨d,a,n,D⟩:=st;have hn':n<=80000:=hn;clear hn;obtain⟨zs,ek,el,hz⟩:=zbg ok;have l3:=ok.1;walk_at "";refine zac _ ⟨zs,ek,by omega,rfl⟩ ?_;have sl:(sortS zs).length<=20:=by rw[(zaj _).length_eq];omega
 generalize sortS zs=ys at sl;walk_at "";intro p q;have yl:(ys.map PV.str).length=ys.length:=List.length_map ..;refine draw (by omega) (by decide) (by decide) fun u u0 u1=>?_;walk_at "";generalize hN:(if u<((ys.map PV.str).length:Int) then u else ((ys.map PV.str).length:Int))=N;have hN0:0<=N:=by rw[<- hN];split<;>omega
 have hN1:N<=ys.length:=by rw[<- hN];split<;>omega
 refine⟨by omega,by omega,zjo _ (fun i A=>∃(L M:List PV)(o:Option Sl)(m:Nat),A=⟨B',[some (.val (.raw (.ref d))),some (.val (.dic kvs)),some (.own p (.lst L)),some (.own q (.lst M)),o],some ⟨d,a,m,D⟩⟩/\L.length+i=ys.length/\M.length=i/\m<=n+1+2*i) ⟨ys.map PV.str,[],none,n+1,rfl,by omega,rfl,by omega⟩ (fun _ _ _=>trivial) ?_ ?_⟩
 ·rintro i _ hi ⟨L,M,o,m,rfl,hL,hM,hm⟩;walk_at "";refine draw (by omega) (by omega) (Int.lt_of_le_of_lt (b:=900) (by omega) (by decide)) fun v v0 v1=>?_;walk_at "";have hv:v.toNat<L.length:=by omega
  refine⟨v.toNat,L[v.toNat],by rw[Int.toNat_of_nonneg v0],by omega,List.getElem?_eq_getElem hv,?_⟩;walk_at "";refine draw (by omega) (by decide) (by decide) fun v' v0' v1'=>?_;walk_at "";refine zaT v0' (by simpa using v1') fun x hx=>?_;walk_at "";refine⟨by omega,_,_,_,_,rfl,?_,?_,by omega⟩
  ·rw[List.length_eraseIdx_of_lt hv];omega
  ·rw[List.length_append,hM];rfl
 ·rintro _ ⟨L,M,o,m,rfl,hL,hM,hm⟩;walk_at "";exact h _ ⟨d,a,m,D⟩ ⟨m,(by show m<=n+50;omega),rfl⟩
end
section
variable {P:Program}{w:World}{K:Frag}{mg:Str->Option Value}{base:Heap}
variable {m₀:Nat}
theorem yaf:FnScope ["_law_state","_law_frame_here","_law_deep","_law_ask_here","_law_cols","_law_size","_law_pairs","_law_shown_here","_law_name","_law_way","_law_word_here","_law_kind_here","_law_one","_law_turn"] ["_law_state","_law_frame_here","_law_deep"] (defScope zbq):=⟨rfl,rfl,rfl,by decide +kernel,rfl,by decide +kernel,by decide +kernel⟩
theorem zep {k:Nat}(D:Df K mg "_law_shown" zbq)(B:Bt mg)(yac:Kn P w K mg base k "_law_ask" (spS K false (Tr3 (tAsk m₀))))(yaa:Kn P w K mg base k "_law_take" (spS K false (Tr2 zat)))(yap:Kn P w K mg base k "_law_new" (spS K false (Tr1 tNew)))(yah:Kn P w K mg base k "_law_sum" (spS K false (Tr4 (tSumL 3))))(yal:Kn P w K mg base k "_law_may_be" (spV K false (Rl2 (rMay 2)))):Kn P w K mg base (k+1) "_law_shown" (spS K false (Tr3 (tShown (m₀+1)))):=by
 refine D.okS yaf (fun _ _ _ _ _ _=>bd3 fun _ _ _=>rfl) (fun _ _ _=>Tr3.len) (by decide) (fun f cdv A outer s H E hr=>⟨_,(sc (zcP (zaa rfl yac hr (ac (vn 0) (ac (vn 1) (ac (vn 2) an)))) (g_t (n:=3) rfl rfl (g_c (g_n (i:=3) yaf.nd) (g_c (g_n (i:=4) yaf.nd) (g_c (g_n (i:=5) yaf.nd) g_0)))))
  (sc (zaQ (i:=6) yaf.nd (el an))
  (sc (zaQ (i:=7) yaf.nd ed0)
  (sc (zbC PassesOwn.never rfl (iv rfl (vf (zcg rfl rfl B.sorted (qn 4)))) (g_n (i:=8) yaf.nd)
  (sc (zam (i:=9) yaf.nd (zaa rfl yaa hr (ac (vn 0) (ac vi an))))
  (sc (s_if (t_lt (qn 9) (qv vi)) (sc (zax (zbU rfl 6 (et (ac (vn 8) (ac (et (ac vs (ac (vn 8) an))) an)))))
  (s1 (zbQ hr 7 (zae rfl hr (qn 4) (qn 8)) (vn 8)))) sn)
  (s1 (s_if (t_eq rfl hr (qn 9) (qv vi)) (sc (zam (i:=10) yaf.nd (zaa rfl yap hr (ac (vn 0) an)))
  (sc (zam (i:=11) yaf.nd (zae rfl hr (qv (zae rfl hr (qn 4) (qn 8))) (qv vi)))
  (sc (zam (i:=12) yaf.nd (zaa rfl yah hr (ac (vn 0) (ac (vn 4) (ac (vn 11) (ac vi an))))))
  (sc (zax (zbU rfl 6 (et (ac (vn 10) (ac (vn 12) an)))))
  (s1 (zbQ hr 7 (et (ac (vn 11) (ac (zaG rfl yal hr (ac (vn 12) (ac (vn 4) an))) an))) (vn 10))))))) sn)))))
  (sc (s_if (t_eq rfl hr (qn 6) (qf (el an))) (sc (zam (i:=8) yaf.nd (zae rfl hr (qf (zcg rfl rfl B.sorted (qn 4))) (qv vi)))
  (sc (zax (zbU rfl 6 (et (ac (vn 8) (ac (et (ac vs (ac (vn 8) an))) an)))))
  (s1 (zbQ hr 7 (zae rfl hr (qn 4) (qn 8)) (vn 8))))) sn)
  (sc (zam (i:=13) yaf.nd (zaa rfl yaa hr (ac (vn 0) (ac (zaW rfl B.len (qn 6)) an))))
  (s1 (zak (et (ac (et (ac vs (ac (vn 3) (ac (zaN rfl B.tuple (qf (zhQ (qf (zgd rfl (qn 6) (o_so (vn 13)) o_no)) (qf (zgd rfl (qn 6) o_no (o_so (vn 13))))))) an)))) (ac (vn 7) (ac (vn 5) an)))))))))))),fun B' xs st Q h=>?_⟩)
 obtain⟨x1,x2,rfl,h⟩:=h;change (_:US) (endsS false Q) ⟨B',[some (.val (.raw (.ref st.d))),some (.val x1),some (.val x2),none,none,none,none,none,none,none,none,none,none,none],some st⟩;obtain⟨hm,F,rfl,W,hn,h⟩:=h;obtain⟨d,a,n,D⟩:=st;have W':WdOk D:=W;have hn':n<=70000:=hn;clear hn;walk_at "";refine⟨0,.inl ⟨rfl,by omega⟩,F,rfl,W',(by show n<=75000;omega),fun au kvs sz st1 hu ok hne hst1=>?_⟩;obtain⟨m1,nm,pt,hm1,rfl⟩:=hst1;have hm1':m1<=n+5:=hm1;clear hm1;simp only[SSt.d,SSt.a,SSt.b];obtain⟨zs,ek,el,hz⟩:=zbg ok;have l3:=ok.1;walk_at "";intro p q;refine zac _ ⟨zs,ek,by omega,rfl⟩ ?_;have sl:(sortS zs).length<=3:=by rw[(zaj _).length_eq];omega
 have all:∀ z∈sortS zs,Has kvs z:=fun z hz'=>hz z ((zaj _).mem_iff.mp hz')
 have yne:sortS zs≠[]:=fun e=>by
  have h1:=(zaj zs).length_eq;rw[e,el] at h1;exact hne (List.eq_nil_of_length_eq_zero h1.symm)
 have eS:gSortD (.dic kvs) (.lst ((sortS zs).map PV.str)):=⟨zs,ek,by omega,rfl⟩;generalize sortS zs=ys at sl all yne eS;walk_at "";have ok5:DD 50 kvs:=ok.mono (by omega);have e12:nS 1=12:=rfl;refine zcz ys PV.str (fun dd A=>∃(M:List PV)(kv2:List (PV×PV))(o8 o9 o10 o11 o12:Option Sl)(m:Nat)(nm' pt':Int),A=⟨B',[some (.val (.raw (.ref d))),some (.val x1),some (.val (.int ((0:Nat):Int))),some (.val au),some (.val (.dic kvs)),some (.val (.int sz)),some (.own p (.lst M)),some (.own q (.dic kv2)),o8,o9,o10,o11,o12,none],some ⟨d,a,m,{ nm:=nm',pt:=pt',x:=D.x,z:=D.z,y:=D.y,tb:=D.tb }⟩⟩/\DD dd.length kv2/\M.length<=dd.length/\((M≠[]->kv2≠[])/\∀ y∈M,Pn 4 y)/\m<=m1+20*dd.length) ⟨[],[],none,none,none,none,none,m1,nm,pt,rfl,⟨Nat.le_refl _,fun _ h=>by cases h⟩,Nat.le_refl _,⟨fun h=>absurd rfl h,fun _ h=>by cases h⟩,by omega⟩ (fun _ _ _=>trivial) ?_ ?_
 ·rintro dd x r A2 e ⟨M,kv2,o8,o9,o10,o11,o12,m,nm',pt',rfl,hD,hM,⟨hMk,hMp⟩,hm⟩;have hx:Has kvs x:=all x (by rw[e];simp);have hdl:dd.length<=3:=by rw[e,List.length_append] at sl;omega
  have kl:=hD.1;walk_at "";refine draw (by omega) (by decide) (by decide) fun u u0 u1=>?_;walk_at "";have ll:(dd++[x]).length=dd.length+1:=by simp
  refine zah (fun e1=>?_) fun e1=>?_
  ·walk_at "";refine⟨by omega,zac _ hx ?_⟩;walk_at "";have pp:=hD.put x (kd kvs x) (md kvs x);refine⟨by omega,cifF ?_ ?_⟩
   ·have:=of_decide_eq_true e1;simp;omega
   walk_at "";exact⟨_,_,_,_,_,_,_,_,_,_,rfl,by rw[ll];exact pp.1,by rw[List.length_append,ll];show M.length+1<=_;omega,⟨fun _=>pp.2,zgW hMp (zgX _ (Pn.mono (n:=1) (fun y hy=>by simp only[List.mem_cons,List.not_mem_nil,or_false] at hy;rcases hy with rfl|rfl<;>exact zaS _ _) (by decide)))⟩,by rw[ll];omega⟩
  ·walk_at "";refine zah (fun e2=>?_) fun e2=>?_
   ·walk_at "";refine⟨W',fun z st2 hz2 hst2=>?_⟩;obtain⟨m2,nm2,pt2,hm2,rfl⟩:=hst2;have hm2':m2<=m+1+0:=hm2;clear hm2;simp only[SSt.d,SSt.a,SSt.b];walk_at "";refine zac _ hx ?_;walk_at "";refine⟨2,by decide,kvs,kd kvs x,rfl,rfl,rfl,ok5,(by show m2+nS 1<=90000;omega),fun s1 st3 hs1 hst3=>?_⟩;obtain⟨m3,hm3,rfl⟩:=hst3;have hm3':m3<=m2+nS 1:=hm3;clear hm3;walk_at "";refine⟨by omega,zac (.bl (mayB kvs s1)) ⟨kvs,s1,rfl,rfl,hs1,rfl⟩ ?_⟩;walk_at "";have pp:=hD.put z (kd kvs x) (mayB kvs s1);exact⟨by omega,_,_,_,_,_,_,_,_,_,_,rfl,by rw[ll];exact pp.1,by rw[List.length_append,ll];show M.length+1<=_;omega,⟨fun _=>pp.2,zgW hMp (zgX _ ((zfP hs1).1.mono (by decide)))⟩,by rw[ll];omega⟩
   ·walk_at "";exact⟨_,_,_,_,_,_,_,_,_,_,rfl,hD.mono (by omega),by omega,⟨hMk,hMp⟩,by rw[ll];omega⟩
 ·rintro A2 ⟨M,kv2,o8,o9,o10,o11,o12,m,nm',pt',rfl,hD,hM,⟨hMk,hMp⟩,hm⟩;have kl:=hD.1;walk_at "";refine zac _ (by rw[zbn (n:=4) (fun y hy=>(hMp y hy).dp) (by decide)]) ?_;refine zah (fun e1=>?_) fun e1=>?_
  ·have eM:M=[]:=by cases M with|nil=>rfl|cons _ _=>cases e1
   subst eM;obtain⟨y0,yr,rfl⟩:∃ y0 yr,ys=y0::yr:=by cases ys with|nil=>exact absurd rfl yne|cons y0 yr=>exact⟨y0,yr,rfl⟩
   walk_at "";refine zac _ eS ?_;walk_at "";refine zac _ (all y0 (by simp)) ?_;have pp:=hD.put y0 (kd kvs y0) (md kvs y0);walk_at "";refine⟨by omega,draw (by omega) (by decide) (by decide) fun u u0 u1=>?_⟩;walk_at "";exact⟨by rw[zfo u0 (by show u<=1;omega)];show 1<=_;decide,h _ _ _ _ (pp.1.mono (by omega)) pp.2 ⟨m+1,nm',pt',(by show m+1<=n+200;omega),rfl⟩⟩
  ·have hl:0<M.length:=by cases M with|nil=>cases e1|cons _ _=>simp
   walk_at "";refine draw (by omega) (by omega) (Int.lt_of_le_of_lt (b:=900) (by omega) (by decide)) fun u u0 u1=>?_;walk_at "";exact⟨by rw[zfo u0 (by omega)];omega,h _ _ _ _ (hD.mono (by omega)) (hMk fun e=>by rw[e] at hl;cases hl) ⟨m+1,nm',pt',(by show m+1<=n+200;omega),rfl⟩⟩
end
open PySem L2 ST
def tMeet (m:Nat)(x y z v:PV)(st:SSt)(Q:PV->SSt->Prop):Prop:=∃ k1 k2,3<=m/\Frm x/\y=.dic k1/\z=.dic k2/\v=.int (1:Nat)/\DD 9 k1/\DD 9 k2/\WdOk st.b/\st.n<=69000/\∀(r:PV)(st':SSt),Nz st 150 st'->Q r st'
section
variable {P:Program}{w:World}{K:Frag}{mg:Str->Option Value}{base:Heap}
variable {m₀:Nat}
theorem yam:FnScope ["_law_state","_law_frame_here","_law_mine","_law_yours","_law_deep","_law_met_by","_law_both_here","_law_way","_law_one","_law_others","_law_found"] ["_law_state","_law_frame_here","_law_mine","_law_yours","_law_deep"] (defScope zaX):=⟨rfl,rfl,rfl,by decide +kernel,rfl,by decide +kernel,by decide +kernel⟩
theorem zdm {k:Nat}(D:Df K mg "_law_meeting" zaX)(B:Bt mg)(yaa:Kn P w K mg base k "_law_take" (spS K false (Tr2 zat)))(yad:Kn P w K mg base k "_law_cond" (spS K false (Tr4 (tCond m₀)))):Kn P w K mg base (k+1) "_law_meeting" (spS K false (Tr5 (tMeet (m₀+1)))):=by
 refine D.okS yam (fun _ _ _ _ _ _=>bd5 fun _ _ _ _ _=>rfl) (fun _ _ _=>Tr5.len) (by decide) (fun f cdv A outer s H E hr=>⟨_,(sc (zca (i:=5) yam.nd (N:=["_law_one","_law_mine","_law_yours"]) (k:=1) (ix:=[2,3]) cS rfl (iv rfl (vf (zcg rfl rfl B.sorted (qn 2)))) (fun _ _ _ _=>(g_n (i:=0) (by show(["_law_one","_law_mine","_law_yours"]:List Str).Nodup;decide +kernel))) (fun _ _ _ _=>(f_1 (zgw rfl hr (qv (zae rfl hr (qv (zae rfl hr (qn 1) (qn 0))) (qv vi))) (qf (zcu (N:=["_law_other","_law_yours"]) (k:=1) (ix:=[2]) cS rfl (i_n rfl 2) (fun _ _ _ _=>(g_n (i:=0) (by show(["_law_other","_law_yours"]:List Str).Nodup;decide +kernel))) (fun _ _ _ _=>f_0) (fun _ _ _ _=>(zae rfl hr (qv (zae rfl hr (qn 1) (qn 0))) (qv vi)))))))) (fun _ _ _ _=>(vn 0)))
  (sc (zaQ (i:=6) yam.nd (zfl rfl rfl B.dict (qn 2)))
  (sc (zax (zoL rfl 6 (vn 3)))
  (sc (zam (i:=7) yam.nd (zaa rfl yaa hr (ac (vn 0) (ac vi an))))
  (sc (s_if (PW.pt (t_or (t_eq rfl hr (qn 5) (qf (el an))) (ziD (t_eq rfl hr (qn 7) (qv vi))))) (s1 (zak (zaa rfl yad hr (ac (vn 0) (ac (vn 1) (ac (vn 6) (ac (vn 4) an))))))) sn)
  (sc (zam (i:=8) yam.nd (zae rfl hr (qn 5) (qv (zaa rfl yaa hr (ac (vn 0) (ac (zaW rfl B.len (qn 5)) an))))))
  (sc (zca (i:=9) yam.nd (N:=["_law_other","_law_yours","_law_mine","_law_one"]) (k:=1) (ix:=[3,2,8]) cS rfl (iv rfl (vf (zcg rfl rfl B.sorted (qn 3)))) (fun _ _ _ _=>(g_n (i:=0) (by show(["_law_other","_law_yours","_law_mine","_law_one"]:List Str).Nodup;decide +kernel))) (fun _ _ _ _=>(f_1 (t_eq rfl hr (qv (zae rfl hr (qv (zae rfl hr (qn 1) (qn 0))) (qv vi))) (qv (zae rfl hr (qv (zae rfl hr (qn 2) (qn 3))) (qv vi)))))) (fun _ _ _ _=>(vn 0)))
  (sc (zam (i:=10) yam.nd (et (ac vs (ac (et (ac vs (ac (vn 8) an))) (ac (et (ac vs (ac (zae rfl hr (qn 9) (qv (zaa rfl yaa hr (ac (vn 0) (ac (zaW rfl B.len (qn 9)) an))))) an))) an)))))
  (sc (s_if (t_eq rfl hr (qn 7) (qv vi)) (s1 (zak (et (ac vs (ac (vn 10) (ac (zaa rfl yad hr (ac (vn 0) (ac (vn 1) (ac (vn 6) (ac (vn 4) an))))) an)))))) sn)
  (s1 (zak (vn 10)))))))))))),fun B' xs st Q h=>?_⟩)
 obtain⟨x1,x2,x3,x4,rfl,h⟩:=h;change (_:US) (endsS false Q) ⟨B',[some (.val (.raw (.ref st.d))),some (.val x1),some (.val x2),some (.val x3),some (.val x4),none,none,none,none,none,none],some st⟩;obtain⟨k1,k2,hm,F,rfl,rfl,rfl,d1,d2,W,hn,h⟩:=h;obtain⟨d,a,n,D⟩:=st;have W':WdOk D:=W;have hn':n<=69000:=hn;clear hn;obtain⟨zs,ek,el,hz⟩:=zbg d1;obtain⟨ys,fk,fe,hy⟩:=zbg d2;have l1:=d1.1;have l2:=d2.1;walk_at "";refine zac _ ⟨zs,ek,by omega,rfl⟩ ?_;have sl:(sortS zs).length<=9:=by rw[(zaj _).length_eq];omega
 have all:∀ z∈sortS zs,Has k1 z:=fun z hz'=>hz z ((zaj _).mem_iff.mp hz');generalize sortS zs=xs at sl all;walk_at "";refine zco xs PV.str PV.str (fun c=>(ys.map (kd k2)).contains (kd k1 c)) (by omega) ?_ ?_
 ·intro B x hx Rs Rn hs hn;walk_at "";refine zac _ (all x hx) ?_;walk_at "";rw[fk];refine zie ys PV.str (fun c=>.str (kd k2 c)) (by omega) ?_ ?_
  ·intro B x hx R hR;walk_at "";refine zac _ (hy x hx) ?_;walk_at "";exact hR _ ⟨rfl,rfl⟩ rfl
  refine⟨rfl,zac _ (by rw[zlE]) ?_⟩;rw[Bool.false_xor];refine zah (fun e=>?_) fun e=>?_
  ·walk_at "";exact hs _ e ⟨rfl,rfl⟩ rfl
  ·exact hn _ e ⟨rfl,rfl⟩ rfl
 have fl:(xs.filter fun c=>(ys.map (kd k2)).contains (kd k1 c)).length<=9:=Nat.le_trans (List.length_filter_le ..) sl
 have fa:∀ z∈xs.filter fun c=>(ys.map (kd k2)).contains (kd k1 c),Has k1 z/\∃ y∈ys,kd k2 y=kd k1 z:=fun z hz'=>by
  obtain⟨h1,h2⟩:=List.mem_filter.mp hz';rw[List.contains_iff_mem] at h2;obtain⟨y,hy1,hy2⟩:=List.mem_map.mp h2;exact⟨all z h1,y,hy1,hy2⟩
 generalize xs.filter (fun c=>(ys.map (kd k2)).contains (kd k1 c))=ms at fl fa;have mrg:=(DD.merge d1 d2).1;walk_at "";intro p;refine⟨k2,rfl,by omega,draw (by omega) (by decide) (by decide) fun u u0 u1=>?_⟩;walk_at "";refine zac _ (by rw[zbn (n:=1) (fun y hy=>by obtain⟨z,_,rfl⟩:=List.mem_map.mp hy;exact zbo _ _) (by decide)]) ?_
 have cnd:∀(m:Nat)(nm pt:Int)(R:PV->SSt->Prop),m<=n+10->(∀ r m' nm' pt',m'<=m+120->R r ⟨d,a,m',{ nm:=nm',pt:=pt',x:=D.x,z:=D.z,y:=D.y,tb:=D.tb }⟩)->tCond m₀ x1 (.dic (mergeP k1 k2)) (.int (1:Nat)) ⟨d,a,m,{ nm:=nm,pt:=pt,x:=D.x,z:=D.z,y:=D.y,tb:=D.tb }⟩ R:=fun m nm pt R hm1 hR=>
  ⟨1,_,.inr ⟨rfl,by omega⟩,F,rfl,rfl,mrg.mono (by omega),W',(by show m<=70000;omega),fun c st' _ hst=>by
   obtain⟨m',nm',pt',hm',rfl⟩:=hst
   exact hR _ m' nm' pt' hm'⟩
 have fin:∀(r:PV)(m:Nat)(nm pt:Int),m<=n+150->Q r ⟨d,a,m,{ nm:=nm,pt:=pt,x:=D.x,z:=D.z,y:=D.y,tb:=D.tb }⟩:=fun r m nm pt hm=>h r _ ⟨m,nm,pt,hm,rfl⟩;refine zah (fun e=>?_) fun e=>?_
 ·walk_at "";refine cnd _ D.nm D.pt _ (by omega) fun r m' nm' pt' hm'=>?_;walk_at "";exact fin _ _ _ _ (by omega)
 walk_at "";refine zah (fun e=>?_) fun e=>?_
 ·walk_at "";refine cnd _ D.nm D.pt _ (by omega) fun r m' nm' pt' hm'=>?_;walk_at "";exact fin _ _ _ _ (by omega)
 have ml:(ms.map PV.str).length=ms.length:=List.length_map ..;have m0:0<ms.length:=by cases ms with|nil=>simp at*| cons _ _=>simp
 walk_at "";refine draw (by omega) (by omega) (Int.lt_of_le_of_lt (b:=900) (by omega) (by decide)) fun v v0 v1=>?_;walk_at "";refine zaT v0 v1 fun x hx=>?_;obtain⟨o,ho,rfl⟩:=List.mem_map.mp hx;obtain⟨ho1,y0,hy0,ky0⟩:=fa o ho;walk_at "";refine zac _ ⟨ys,fk,by omega,rfl⟩ ?_;have sl2:(sortS ys).length<=9:=by rw[(zaj _).length_eq];omega
 have all2:∀ z∈sortS ys,Has k2 z:=fun z hz'=>hy z ((zaj _).mem_iff.mp hz');have my0:y0∈sortS ys:=(zaj _).mem_iff.mpr hy0;generalize sortS ys=ts at sl2 all2 my0;walk_at "";refine zco ts PV.str PV.str (fun c=>kd k2 c==kd k1 o) (by omega) ?_ ?_
 ·intro B x hx Rs Rn hs hn;walk_at "";refine zac _ (all2 x hx) ?_;walk_at "";refine zac _ ho1 ?_;walk_at "";refine zah (fun e=>?_) fun e=>?_
  ·walk_at "";exact hs _ e ⟨rfl,rfl⟩ rfl
  ·exact hn _ e ⟨rfl,rfl⟩ rfl
 have gl:(ts.filter fun c=>kd k2 c==kd k1 o).length<=9:=Nat.le_trans (List.length_filter_le ..) sl2;have g0:0<(ts.filter fun c=>kd k2 c==kd k1 o).length:=List.length_pos_of_mem (List.mem_filter.mpr ⟨my0,by simp [ky0]⟩);generalize ts.filter (fun c=>kd k2 c==kd k1 o)=os at gl g0;have osl:(os.map PV.str).length=os.length:=List.length_map ..;walk_at "";refine draw (by omega) (by omega) (Int.lt_of_le_of_lt (b:=900) (by omega) (by decide)) fun v' v0' v1'=>?_;walk_at "";refine zaT v0' v1' fun x hx=>?_;obtain⟨o',ho',rfl⟩:=List.mem_map.mp hx;walk_at "";refine zah (fun e=>?_) fun e=>?_
 ·walk_at "";refine cnd _ D.nm D.pt _ (by omega) fun r m' nm' pt' hm'=>?_;walk_at "";exact fin _ _ _ _ (by omega)
 ·walk_at "";exact fin _ _ D.nm D.pt (by omega)
end
open PySem L2 ST
def tBoth (m:Nat)(x y z:PV)(st:SSt)(Q:PV->SSt->Prop):Prop:=4<=m/\Frm x/\(∃ t:Str,y=.str t)/\z=.int (0:Nat)/\WdOk st.b/\st.n<=68000/\∀(u:PV)(kvs:List (PV×PV))(s:Int)(st':SSt),DD 9 kvs->kvs≠[]->Nz st 200 st'->Q (.tup [u,.dic kvs,.int s]) st'
theorem in2 (z:Str){b:Bool}(h:[("half":Str),"lack"].contains z=b):gInA false (.str z) (.tup [.str "half",.str "lack"]) (.bl b):=by
 show gInA false (.str z) (.tup ([("half":Str),"lack"].map PV.str)) (.bl b);rw[zhH,h,Bool.false_xor]
section
variable {P:Program}{w:World}{K:Frag}{mg:Str->Option Value}{base:Heap}
variable {m₀:Nat}
theorem yak:FnScope ["_law_state","_law_frame_here","_law_word_here","_law_deep","_law_a","_law_mine","_law_one","_law_b","_law_yours","_law_other","_law_cond_here","_law_cols","_law_name"] ["_law_state","_law_frame_here","_law_word_here","_law_deep"] (defScope zbL):=⟨rfl,rfl,rfl,by decide +kernel,rfl,by decide +kernel,by decide +kernel⟩
theorem zff {k:Nat}(D:Df K mg "_law_both" zbL)(B:Bt mg)(yac:Kn P w K mg base k "_law_ask" (spS K false (Tr3 (tAsk m₀))))(yaU:Kn P w K mg base k "_law_meeting" (spS K false (Tr5 (tMeet m₀)))):Kn P w K mg base (k+1) "_law_both" (spS K false (Tr4 (tBoth (m₀+1)))):=by
 refine D.okS yak (fun _ _ _ _ _ _=>bd4 fun _ _ _ _=>rfl) (fun _ _ _=>Tr4.len) (by decide) (fun f cdv A outer s H E hr=>⟨_,(sc (zcP (zaa rfl yac hr (ac (vn 0) (ac (vn 1) (ac (vn 3) an)))) (g_t (n:=3) rfl rfl (g_c (g_n (i:=4) yak.nd) (g_c (g_n (i:=5) yak.nd) (g_c (g_n (i:=6) yak.nd) g_0)))))
  (sc (zcP (zaa rfl yac hr (ac (vn 0) (ac (vn 1) (ac (zbl (qn 3) (qv (zgf B.int (qv (e_gt (qn 3) (qv vi)))))) an)))) (g_t (n:=3) rfl rfl (g_c (g_n (i:=7) yak.nd) (g_c (g_n (i:=8) yak.nd) (g_c (g_n (i:=9) yak.nd) g_0)))))
  (sc (s_if (t_gt (qv (zge (qn 6) (qv (zoO rfl B.max (qv vi) (qn 9))))) (qv vi)) (s1 (zak (et (ac (vn 4) (ac (vn 5) (ac (vn 6) an)))))) sn)
  (sc (zam (i:=10) yak.nd (zaa rfl yaU hr (ac (vn 0) (ac (vn 1) (ac (vn 5) (ac (vn 8) (ac vi an)))))))
  (sc (s_if (zgw rfl hr (qn 2) (qv (et (ac vs (ac vs an))))) (s1 (zak (et (ac (et (ac (vn 2) (ac (vn 4) (ac (vn 7) (ac (vn 10) an))))) (ac (vn 5) (ac (vn 6) an)))))) sn)
  (sc (zaQ (i:=11) yak.nd (zfl rfl rfl B.dict (qn 5)))
  (sc (zbC PassesOwn.never rfl (i_n rfl 8) (g_n (i:=12) yak.nd)
  (s1 (zbQ hr 11 (et (ac (zae rfl hr (qv (zae rfl hr (qn 8) (qn 12))) (qv vi)) (ac (e_or (zae rfl hr (qv (zae rfl hr (qn 8) (qn 12))) (qv vi)) (zeA (e_eq rfl hr (qn 2) (qv vs)))) an))) (vn 12))))
  (s1 (zak (et (ac (et (ac (vn 2) (ac (vn 4) (ac (vn 7) (ac (vn 10) an))))) (ac (vn 11) (ac (zge (qn 6) (qv (zoO rfl B.max (qv vi) (qn 9)))) an))))))))))))),fun B' xs st Q h=>?_⟩)
 obtain⟨x1,x2,x3,rfl,h⟩:=h;change (_:US) (endsS false Q) ⟨B',[some (.val (.raw (.ref st.d))),some (.val x1),some (.val x2),some (.val x3),none,none,none,none,none,none,none,none,none],some st⟩;obtain⟨hm,F,⟨t,rfl⟩,rfl,W,hn,h⟩:=h;obtain⟨d,a,n,D⟩:=st;have W':WdOk D:=W;have hn':n<=68000:=hn;clear hn;walk_at "";refine⟨0,.inl ⟨rfl,by omega⟩,F,rfl,W',(by show n<=75000;omega),fun u1 k1 s1 st1 hu1 d1 ne1 hst1=>?_⟩;obtain⟨m1,nm1,pt1,hm1,rfl⟩:=hst1;have hm1':m1<=n+5:=hm1;clear hm1;simp only[SSt.d,SSt.a,SSt.b];walk_at "";refine⟨0,.inl ⟨rfl,by omega⟩,F,rfl,W',(by show m1<=75000;omega),fun u2 k2 s2 st2 hu2 d2 ne2 hst2=>?_⟩;obtain⟨m2,nm2,pt2,hm2,rfl⟩:=hst2;have hm2':m2<=m1+5:=hm2;clear hm2;simp only[SSt.d,SSt.a,SSt.b];have fin:∀(r:PV)(kvs:List (PV×PV))(s:Int)(m:Nat)(nm pt:Int),DD 9 kvs->kvs≠[]->m<=n+200->Q (.tup [r,.dic kvs,.int s]) ⟨d,a,m,{ nm:=nm,pt:=pt,x:=D.x,z:=D.z,y:=D.y,tb:=D.tb }⟩:=fun r kvs s m nm pt h1 h2 hm=>h r kvs s _ h1 h2 ⟨m,nm,pt,hm,rfl⟩;obtain⟨_,rfl⟩:=hu1 rfl;obtain⟨_,rfl⟩:=hu2 rfl;walk_at "";refine⟨.inl (by decide),zah (fun e=>?_) fun e=>?_⟩
 ·walk_at "";exact fin _ _ _ _ _ _ (d1.mono (by omega)) ne1 (by omega)
 walk_at "";refine⟨k1,k2,by omega,F,rfl,rfl,rfl,d1.mono (by omega),d2.mono (by omega),W',(by show m2<=69000;omega),fun r st3 hst3=>?_⟩;obtain⟨m3,nm3,pt3,hm3,rfl⟩:=hst3;have hm3':m3<=m2+150:=hm3;clear hm3;simp only[SSt.d,SSt.a,SSt.b];walk_at "";refine zac _ (in2 t rfl) ?_;refine zah (fun e=>?_) fun e=>?_
 ·walk_at "";exact fin _ _ _ _ _ _ (d1.mono (by omega)) ne1 (by omega)
 walk_at "";intro p;obtain⟨ys,fk,fe,hy⟩:=zbg d2;have l1:=d1.1;have l2:=d2.1;rw[fk];refine zcz ys PV.str (fun dd A=>∃(kv:List (PV×PV))(o:Option Sl),A=⟨B',[some (.val (.raw (.ref d))),some (.val x1),some (.val (.str t)),some (.val (.int ((0:Nat):Int))),some (.val u1),some (.val (.dic k1)),some (.val (.int 4)),some (.val u2),some (.val (.dic k2)),some (.val (.int 4)),some (.val r),some (.own p (.dic kv)),o],some ⟨d,a,m3,{ nm:=nm3,pt:=pt3,x:=D.x,z:=D.z,y:=D.y,tb:=D.tb }⟩⟩/\DD (3+dd.length) kv/\kv≠[]) ⟨k1,none,rfl,d1.mono (by simp),ne1⟩ (fun _ _ _=>trivial) ?_ ?_
 ·rintro dd x rr A2 e ⟨kv,o,rfl,hD,hne⟩;have hx:=hy x (by rw[e];simp);have kl:=hD.1
  have hdl:dd.length<=3:=by
   have:ys.length<=3:=by omega
   rw[e,List.length_append] at this;omega
  have ll:(dd++[x]).length=dd.length+1:=by simp
  walk_at "";refine zac _ hx ?_;walk_at "";refine zac _ hx ?_;walk_at "";refine zah (fun e=>?_) fun e=>?_
  ·walk_at "";have pp:=hD.put x (kd k2 x) true;exact⟨by omega,_,_,rfl,by rw[ll];exact pp.1,pp.2⟩
  ·walk_at "";have pp:=hD.put x (kd k2 x) (t=="left");exact⟨by omega,_,_,rfl,by rw[ll];exact pp.1,pp.2⟩
 ·rintro A2 ⟨kv,o,rfl,hD,hne⟩;walk_at "";exact⟨.inl (by decide),fin _ _ _ _ _ _ (hD.mono (by omega)) hne (by omega)⟩
end
open PySem L2 ST
section
variable {P:Program}{w:World}{K:Frag}{mg:Str->Option Value}{base:Heap}
variable {m₀:Nat}
theorem yab:FnScope ["_law_state","_law_frame_here","_law_deep","_law_ask_here","_law_cols","_law_size","_law_names","_law_fields","_law_found","_law_name","_law_tells","_law_k","_law_word_here","_law_label","_law_turn"] ["_law_state","_law_frame_here","_law_deep"] (defScope zaZ):=⟨rfl,rfl,rfl,by decide +kernel,rfl,by decide +kernel,by decide +kernel⟩
theorem zdo {k:Nat}(D:Df K mg "_law_grouped" zaZ)(B:Bt mg)(yac:Kn P w K mg base k "_law_ask" (spS K false (Tr3 (tAsk m₀))))(yaa:Kn P w K mg base k "_law_take" (spS K false (Tr2 zat)))(yap:Kn P w K mg base k "_law_new" (spS K false (Tr1 tNew))):Kn P w K mg base (k+1) "_law_grouped" (spS K false (Tr3 (tShown (m₀+1)))):=by
 refine D.okS yab (fun _ _ _ _ _ _=>bd3 fun _ _ _=>rfl) (fun _ _ _=>Tr3.len) (by decide) (fun f cdv A outer s H E hr=>⟨_,(sc (zcP (zaa rfl yac hr (ac (vn 0) (ac (vn 1) (ac (vn 2) an)))) (g_t (n:=3) rfl rfl (g_c (g_n (i:=3) yab.nd) (g_c (g_n (i:=4) yab.nd) (g_c (g_n (i:=5) yab.nd) g_0)))))
  (sc (zam (i:=6) yab.nd (vf (zcg rfl rfl B.sorted (qn 4))))
  (sc (zca (i:=7) yab.nd (N:=["_law_name","_law_state"]) (k:=1) (ix:=[0]) cS rfl (i_n rfl 6) (fun _ _ _ _=>(g_n (i:=0) (by show(["_law_name","_law_state"]:List Str).Nodup;decide +kernel))) (fun _ _ _ _=>(f_1 (t_eq rfl hr (qv (zaa rfl yaa hr (ac (vn 1) (ac vi an)))) (qv vi)))) (fun _ _ _ _=>(vn 0)))
  (sc (zaQ (i:=8) yab.nd ed0)
  (sc (zbC PassesOwn.never rfl (i_n rfl 7) (g_n (i:=9) yab.nd)
  (s1 (zbQ hr 8 (zae rfl hr (qn 4) (qn 9)) (vn 9))))
  (sc (zaQ (i:=10) yab.nd (el an))
  (sc (zbC PassesOwn.never rfl (zga (by rfl) B.range (zbc rfl (qv (zgf B.int (qv (e_eq rfl hr (qn 7) (qf (el an)))))) (qv (zaa rfl yaa hr (ac (vn 0) (ac vi an)))))) (g_n (i:=11) yab.nd)
  (sc (zam (i:=9) yab.nd (zae rfl hr (qn 6) (qv (zaa rfl yaa hr (ac (vn 0) (ac (zaW rfl B.len (qn 6)) an))))))
  (sc (zam (i:=12) yab.nd (zae rfl hr (qf (el (ac vs (ac vs (ac vs (ac vs an)))))) (qv (zaa rfl yaa hr (ac (vn 0) (ac vi an))))))
  (sc (s_if (PW.pt (zcL (t_eq rfl hr (qn 12) (qv vs)) (zbO (t_eq rfl hr (qv (zae rfl hr (qv (zae rfl hr (qn 4) (qn 9))) (qv vi))) (qv vs))))) (s1 (zam (i:=12) yab.nd vs)) sn)
  (sc (zam (i:=13) yab.nd (zaa rfl yap hr (ac (vn 0) an)))
  (sc (zbQ hr 8 (zae rfl hr (qn 4) (qn 9)) (vn 13))
  (sc (s_if (t_eq rfl hr (qn 12) (qv vs)) (sc (zbQ hr 8 (et (ac vs (ac vb an))) (vn 13))
  (s1 (zam (i:=9) yab.nd v0))) sn)
  (s1 (zax (zbU rfl 10 (et (ac (vn 13) (ac (vn 12) (ac (vn 9) an))))))))))))))
  (sc (zam (i:=14) yab.nd (zaa rfl yaa hr (ac (vn 0) (ac (zbc rfl (qv (zaW rfl B.len (qn 7))) (qv vi)) an))))
  (s1 (zak (et (ac (et (ac vs (ac (vn 3) (ac (zaN rfl B.tuple (qv (zbc rfl (qv (e_sl rfl (qn 7) (o_so (vn 14)) o_no)) (qv (e_sl rfl (qn 7) o_no (o_so (vn 14))))))) (ac (zaN rfl B.tuple (qn 10)) an))))) (ac (vn 8) (ac (vn 5) an)))))))))))))),fun B' xs st Q h=>?_⟩)
 obtain⟨x1,x2,rfl,h⟩:=h;change (_:US) (endsS false Q) ⟨B',[some (.val (.raw (.ref st.d))),some (.val x1),some (.val x2),none,none,none,none,none,none,none,none,none,none,none,none],some st⟩;obtain⟨hm,F,rfl,W,hn,h⟩:=h;obtain⟨d,a,n,D⟩:=st;have W':WdOk D:=W;have hn':n<=70000:=hn;clear hn;walk_at "";refine⟨0,.inl ⟨rfl,by omega⟩,F,rfl,W',(by show n<=75000;omega),fun au kvs sz st1 hu ok hne hst1=>?_⟩;obtain⟨m1,nm,pt,hm1,rfl⟩:=hst1;have hm1':m1<=n+5:=hm1;clear hm1;simp only[SSt.d,SSt.a,SSt.b];obtain⟨zs,ek,el,hz⟩:=zbg ok;have l3:=ok.1;walk_at "";refine zac _ ⟨zs,ek,by omega,rfl⟩ ?_;have sl:(sortS zs).length<=3:=by rw[(zaj _).length_eq];omega
 have all:∀ z∈sortS zs,Has kvs z:=fun z hz'=>hz z ((zaj _).mem_iff.mp hz')
 have yne:0<(sortS zs).length:=by
  rw[(zaj zs).length_eq,el];exact List.length_pos_iff.mpr hne
 generalize sortS zs=ys at sl all yne;walk_at "";refine zma ys PV.str (fun dd rs S=>∃(fs:List Str)(m:Nat),rs=fs.map PV.str/\fs.length<=dd.length/\(∀ f∈fs,f∈ys)/\m<=m1+dd.length/\S=some ⟨d,a,m,{ nm:=nm,pt:=pt,x:=D.x,z:=D.z,y:=D.y,tb:=D.tb }⟩) (by omega) ⟨[],m1,rfl,Nat.le_refl _,(fun _ h=>by cases h),by simp,rfl⟩ ?_ ?_
 ·rintro B dd x r rs S e ⟨fs,m,rfl,hf1,hf2,hm2,rfl⟩ Rs Rn hs hn;have ll:(dd++[x]).length=dd.length+1:=by simp
  have hdl:dd.length<=3:=by rw[e,List.length_append] at sl;omega
  walk_at "";refine draw (by omega) (by decide) (by decide) fun u u0 u1=>?_;walk_at "";refine zah (fun e1=>?_) fun e1=>?_
  ·walk_at "";refine hs _ _ ⟨rfl,rfl⟩ ⟨fs++[x],m+1,by rw[List.map_append];rfl,by rw[List.length_append,ll];show fs.length+1<=_;omega,fun f hf=>?_,by omega,rfl⟩;rcases List.mem_append.mp hf with z|z
   ·exact hf2 f z
   ·rw[List.mem_singleton.mp z,e];simp
  ·exact hn _ ⟨rfl,rfl⟩ ⟨fs,m+1,rfl,by omega,hf2,by omega,rfl⟩
 rintro _ _ ⟨fs,m,rfl,hf1,hf2,hm2,rfl⟩;walk_at "";intro p;refine zcz fs PV.str (fun dd A=>∃(kv:List (PV×PV))(o:Option Sl),A=⟨B',[some (.val (.raw (.ref d))),some (.val x1),some (.val (.int ((0:Nat):Int))),some (.val au),some (.val (.dic kvs)),some (.val (.int sz)),some (.val (.lst (ys.map PV.str))),some (.val (.lst (fs.map PV.str))),some (.own p (.dic kv)),o,none,none,none,none,none],some ⟨d,a,m,{ nm:=nm,pt:=pt,x:=D.x,z:=D.z,y:=D.y,tb:=D.tb }⟩⟩/\DD dd.length kv/\(dd≠[]->kv≠[])) ⟨[],none,rfl,⟨Nat.le_refl _,fun _ h=>by cases h⟩,fun h=>absurd rfl h⟩ (fun _ _ _=>trivial) ?_ ?_
 ·rintro dd x rr A2 e ⟨kv,o,rfl,hD,_⟩;have hx:=all x (hf2 x (by rw[e];simp));have kl:=hD.1;have ll:(dd++[x]).length=dd.length+1:=by simp
  have hdl:dd.length<=3:=by
   rw[e,List.length_append] at hf1;omega
  walk_at "";refine zac _ hx ?_;walk_at "";have pp:=hD.put x (kd kvs x) (md kvs x);exact⟨by omega,_,_,rfl,by rw[ll];exact pp.1,fun _=>pp.2⟩
 rintro A2 ⟨kv,o,rfl,hD,hkn⟩;have fl3:fs.length<=3:=by omega
 have yl:(ys.map PV.str).length=ys.length:=List.length_map ..;walk_at "";intro q;refine zac _ (by rw[zbn (n:=1) (fun y hy=>by obtain⟨z,_,rfl⟩:=List.mem_map.mp hy;exact zbo _ _) (by decide)]) ?_;walk_at "";refine draw (by omega) (by decide) (by decide) fun u u0 u1=>?_;walk_at "";generalize hN:((if (fs.map PV.str).isEmpty=true then 1 else 0:Int)+u)=N;have hN0:0<=N:=by rw[<- hN];split<;>omega
 have hN3:N<=3:=by rw[<- hN];split<;>omega
 have hN1:fs=[]->1<=N:=fun e=>by rw[<- hN,e];show 1<=(1:Int)+u;omega
 refine⟨by omega,by omega,zjo _ (fun i A=>∃(kv:List (PV×PV))(M:List PV)(o9 o11 o12 o13:Option Sl)(m':Nat)(nm' pt':Int),A=⟨B',[some (.val (.raw (.ref d))),some (.val x1),some (.val (.int ((0:Nat):Int))),some (.val au),some (.val (.dic kvs)),some (.val (.int sz)),some (.val (.lst (ys.map PV.str))),some (.val (.lst (fs.map PV.str))),some (.own p (.dic kv)),o9,some (.own q (.lst M)),o11,o12,o13,none],some ⟨d,a,m',{ nm:=nm',pt:=pt',x:=D.x,z:=D.z,y:=D.y,tb:=D.tb }⟩⟩/\DD (3+2*i) kv/\(fs≠[]\/0<i->kv≠[])/\M.length<=i/\m'<=m+1+3*i) ⟨kv,[],o,none,none,none,m+1,nm,pt,rfl,hD.mono (by omega),fun h=>hkn (h.elim id fun z=>absurd z (by omega)),Nat.le_refl _,by omega⟩ (fun _ _ _=>trivial) ?_ ?_⟩
 ·rintro i _ hi ⟨kv,M,o9,o11,o12,o13,m',nm',pt',rfl,hD,hkn,hM,hm'⟩;have hi3:i<3:=by omega
  have kl:=hD.1;walk_at "";refine draw (by omega) (by omega) (Int.lt_of_le_of_lt (b:=900) (by omega) (by decide)) fun v v0 v1=>?_;walk_at "";refine zaT v0 v1 fun x hx=>?_;obtain⟨z,hz',rfl⟩:=List.mem_map.mp hx;have hz1:=all z hz';walk_at "";refine draw (by omega) (by decide) (by decide) fun v' v0' v1'=>?_;walk_at "";refine zaT v0' (by simpa using v1') fun x hx=>?_
  obtain⟨t,rfl⟩:∃ t:Str,x=.str t:=by
   simp only[List.mem_cons,List.not_mem_nil,or_false] at hx;rcases hx with rfl|rfl|rfl|rfl<;>exact⟨_,rfl⟩
  walk_at "";refine zdA ?_ fun e tl=>?_;rotate_left
  ·walk_at "";refine zac _ hz1 ?_;walk_at "";refine zah (fun e=>?_) fun _=>tl;clear tl;walk_at "";refine⟨W',fun zz st2 hz2 hst2=>?_⟩;obtain⟨m2,nm2,pt2,hm2,rfl⟩:=hst2;have hm2':m2<=m'+1+1+0:=hm2;clear hm2;simp only[SSt.d,SSt.a,SSt.b];walk_at "";refine zac _ hz1 ?_;walk_at "";have pp:=hD.put zz (kd kvs z) (md kvs z);refine⟨by omega,cifF (by decide +kernel) ?_⟩;walk_at "";exact⟨by omega,_,_,_,_,_,_,_,_,_,rfl,pp.1.mono (by omega),fun _=>pp.2,by rw[List.length_append];show M.length+1<=_;omega,by omega⟩
  walk_at "";refine⟨W',fun zz st2 hz2 hst2=>?_⟩;obtain⟨m2,nm2,pt2,hm2,rfl⟩:=hst2;have hm2':m2<=m'+1+1+0:=hm2;clear hm2;simp only[SSt.d,SSt.a,SSt.b];walk_at "";refine zac _ hz1 ?_;walk_at "";have pp:=hD.put zz (kd kvs z) (md kvs z);have pl:=pp.1.1;refine⟨by omega,zah (fun e=>?_) fun e=>?_⟩
  ·walk_at "";have p2:=pp.1.put zz "number" false;exact⟨by omega,by omega,_,_,_,_,_,_,_,_,_,rfl,p2.1.mono (by omega),fun _=>p2.2,by rw[List.length_append];show M.length+1<=_;omega,by omega⟩
  ·walk_at "";exact⟨by omega,_,_,_,_,_,_,_,_,_,rfl,pp.1.mono (by omega),fun _=>pp.2,by rw[List.length_append];show M.length+1<=_;omega,by omega⟩
 ·rintro _ ⟨kv,M,o9,o11,o12,o13,m',nm',pt',rfl,hD,hkn,hM,hm'⟩;have fml:(fs.map PV.str).length=fs.length:=List.length_map ..;walk_at "";refine draw (by omega) (by omega) (Int.lt_of_le_of_lt (b:=900) (by omega) (by decide)) fun v v0 v1=>?_;walk_at "";refine⟨by rw[zfo v0 (by omega)];omega,h _ _ _ _ (hD.mono (by omega)) (hkn ?_) ⟨m'+1,nm',pt',(by show m'+1<=n+200;omega),rfl⟩⟩;rcases Classical.em (fs=[]) with e|e
  ·exact .inr (by have:=hN1 e;omega)
  ·exact .inl e
end
open PySem L2 ST
def tAdded (m:Nat)(x y:PV)(st:SSt)(Q:PV->SSt->Prop):Prop:=3<=m/\Frm x/\y=.int (0:Nat)/\WdOk st.b/\st.n<=68000/\∀(u:PV)(kvs:List (PV×PV))(s:Int)(st':SSt),DD 9 kvs->kvs≠[]->Nz st 250 st'->Q (.tup [u,.dic kvs,.int s]) st'
theorem inI (i:Int)(l:List Int):gInA false (.int i) (.tup (l.map PV.int)) (.bl (pin (.int i) (l.map PV.int))):=by
 rw[zkl];exact⟨znI _,⟨0,by decide,zeB _ _,fun p hp=>by obtain⟨z,_,rfl⟩:=List.mem_map.mp hp;exact zeB _ _⟩,by rw[Bool.false_xor]⟩
theorem pinI {i:Int}{l:List Int}(h:pin (.int i) (l.map PV.int)=true):i∈l:=by
 unfold pin at h;rw[List.any_map,List.any_eq_true] at h;obtain⟨a,ha,e⟩:=h;have:(a==i)=true:=e;rw[<- (by simpa using this:a=i)];exact ha
section
variable {P:Program}{w:World}{K:Frag}{mg:Str->Option Value}{base:Heap}
variable {m₀:Nat}
theorem yar:FnScope ["_law_state","_law_frame_here","_law_deep","_law_way","_law_ask_here","_law_cols","_law_size"] ["_law_state","_law_frame_here","_law_deep"] (defScope zcm):=⟨rfl,rfl,rfl,by decide +kernel,rfl,by decide +kernel,by decide +kernel⟩
theorem zfY {k:Nat}(D:Df K mg "_law_ask" zcm)(B:Bt mg)(yac:Kn P w K mg base k "_law_ask" (spS K false (Tr3 (tAsk m₀))))(yaa:Kn P w K mg base k "_law_take" (spS K false (Tr2 zat)))(ybo:Kn P w K mg base k "_law_part" (spS K false (Tr2 tPart)))(ybf:Kn P w K mg base k "_law_shown" (spS K false (Tr3 (tShown m₀))))(ybp:Kn P w K mg base k "_law_both" (spS K false (Tr4 (tBoth m₀))))(yaV:Kn P w K mg base k "_law_grouped" (spS K false (Tr3 (tShown m₀))))(ybg:Kn P w K mg base k "_law_added" (spS K false (Tr3 (tAdded m₀))))(ybq:Kn P w K mg base k "_law_keys" (spS K false (Tr2 tKeys)))(yad:Kn P w K mg base k "_law_cond" (spS K false (Tr4 (tCond m₀)))):Kn P w K mg base (k+1) "_law_ask" (spS K false (Tr3 (tAsk (m₀+1)))):=by
 refine D.okS yar (fun _ _ _ _ _ _=>bd3 fun _ _ _=>rfl) (fun _ _ _=>Tr3.len) (by decide) (fun f cdv A outer s H E hr=>⟨_,(sc (zam (i:=3) yar.nd (zge (qv (zaa rfl yaa hr (ac (vn 0) (ac vi an)))) (qv (zgf B.int (qv (zhR (e_gt (qn 2) (qv vi)) (zeA (e_lt (qv (e_st hr 0 5 (by decide) (by decide) rfl)) (qv vi)))))))))
  (sc (s_if (t_eq rfl hr (qn 3) (qv vi)) (s1 (zak (zaa rfl ybo hr (ac (vn 0) (ac (vn 1) an))))) sn)
  (sc (s_if (zgw rfl hr (qn 3) (qv (et (ac vi (ac vi an))))) (sc (zcP (zaa rfl yac hr (ac (vn 0) (ac (vn 1) (ac (zbl (qn 2) (qv vi)) an)))) (g_t (n:=3) rfl rfl (g_c (g_n (i:=4) yar.nd) (g_c (g_n (i:=5) yar.nd) (g_c (g_n (i:=6) yar.nd) g_0)))))
  (s1 (zak (et (ac (et (ac vs (ac (vn 4) (ac (zaa rfl yad hr (ac (vn 0) (ac (vn 1) (ac (vn 5) (ac (zlQ rfl B.min (qv vi) (qn 2)) an))))) an)))) (ac (vn 5) (ac (vn 6) an))))))) sn)
  (sc (s_if (t_eq rfl hr (qn 3) (qv vi)) (s1 (zak (zaa rfl ybf hr (ac (vn 0) (ac (vn 1) (ac (zbl (qn 2) (qv vi)) an)))))) sn)
  (sc (s_if (zgw rfl hr (qn 3) (qv (et (ac vi (ac vi (ac vi (ac vi (ac vi an)))))))) (s1 (zak (zaa rfl ybp hr (ac (vn 0) (ac (vn 1) (ac (zae rfl hr (qf (el (ac vs (ac vs (ac vs (ac vs (ac vs an))))))) (qv (zbl (qn 3) (qv vi)))) (ac (zbl (qn 2) (qv vi)) an))))))) sn)
  (sc (s_if (t_eq rfl hr (qn 3) (qv vi)) (s1 (zak (zaa rfl yaV hr (ac (vn 0) (ac (vn 1) (ac (zbl (qn 2) (qv vi)) an)))))) sn)
  (sc (s_if (t_eq rfl hr (qn 3) (qv vi)) (s1 (zak (zaa rfl ybg hr (ac (vn 0) (ac (vn 1) (ac (zbl (qn 2) (qv vi)) an)))))) sn)
  (sc (zcP (zaa rfl yac hr (ac (vn 0) (ac (vn 1) (ac (zbl (qn 2) (qv vi)) an)))) (g_t (n:=3) rfl rfl (g_c (g_n (i:=4) yar.nd) (g_c (g_n (i:=5) yar.nd) (g_c (g_n (i:=6) yar.nd) g_0)))))
  (sc (s_if (t_eq rfl hr (qv (zaa rfl yaa hr (ac (vn 0) (ac vi an)))) (qv vi)) (s1 (zak (et (ac (et (ac vs (ac (vn 4) an))) (ac (vn 5) (ac (vn 6) an)))))) sn)
  (s1 (zak (et (ac (et (ac vs (ac (vn 4) (ac (zaa rfl ybq hr (ac (vn 0) (ac (vn 5) an))) (ac (zaa rfl yaa hr (ac (vn 0) (ac vi an))) an))))) (ac (vn 5) (ac (vn 6) an))))))))))))))),fun B' xs st Q h=>?_⟩)
 obtain⟨x1,x2,rfl,h⟩:=h;change (_:US) (endsS false Q) ⟨B',[some (.val (.raw (.ref st.d))),some (.val x1),some (.val x2),none,none,none,none],some st⟩;obtain⟨deep,hd,F,rfl,W,hn,h⟩:=h;obtain⟨d,a,n,D⟩:=st;have W':WdOk D:=W;have hn':n<=60000+15000*(1-deep):=hn;clear hn;have hn2:n<=75000:=by omega
 walk_at "";refine draw (by omega) (by decide) (by decide) fun u u0 u1=>?_;walk_at "";rcases hd with ⟨rfl,hm⟩|⟨rfl,hm⟩
 ·refine cifF (by decide) ?_;walk_at "";refine⟨.inl ⟨by omega,by omega⟩,cifT (by simp) ?_⟩;walk_at "";refine⟨F,W',(by show n+1<=90000;omega),fun a1 a2 kvs st1 hk hne hst1=>?_⟩;obtain⟨m1,nm,pt,hm1,rfl⟩:=hst1;have hm1':m1<=n+1+1:=hm1;clear hm1;simp only[SSt.d,SSt.a,SSt.b];walk_at "";exact h _ kvs 4 _ (fun _=>⟨⟨a1,a2,rfl⟩,rfl⟩) hk hne ⟨m1,nm,pt,(by show m1<=n+5;omega),rfl⟩
 ·refine cifT (by decide) ?_;have fin:∀(r:PV)(kvs:List (PV×PV))(s:Int)(m:Nat)(nm pt:Int),DD 9 kvs->kvs≠[]->m<=n+305->Q (.tup [r,.dic kvs,.int s]) ⟨d,a,m,{ nm:=nm,pt:=pt,x:=D.x,z:=D.z,y:=D.y,tb:=D.tb }⟩:=fun r kvs s m nm pt h1 h2 hm=>h r kvs s _ (fun z=>absurd z (by decide)) h1 h2 ⟨m,nm,pt,hm,rfl⟩;have hn3:n<=60000:=by omega
  walk_at "";generalize hw:(u*if decide (D.pt<9)=true then 1 else 0)=way;have w0:0<=way:=by rw[<- hw];split<;>omega
  have w1:way<12:=by rw[<- hw];split<;>omega
  refine⟨.inl ⟨by omega,by omega⟩,zah (fun e=>?_) fun e=>?_⟩
  ·walk_at "";refine⟨F,W',(by show n+1<=90000;omega),fun a1 a2 kvs st1 hk hne hst1=>?_⟩;obtain⟨m1,nm,pt,hm1,rfl⟩:=hst1;have hm1':m1<=n+1+1:=hm1;clear hm1;simp only[SSt.d,SSt.a,SSt.b];walk_at "";exact fin _ kvs 4 _ _ _ (hk.mono (by decide)) hne (by omega)
  walk_at "";refine zac _ (inI way [1,2]) ?_;refine zah (fun e=>?_) fun e=>?_
  ·walk_at "";refine⟨0,.inl ⟨rfl,by omega⟩,F,rfl,W',(by show n+1<=75000;omega),fun u1 kvs sz st1 hu ok hne hst1=>?_⟩;obtain⟨m1,nm,pt,hm1,rfl⟩:=hst1;have hm1':m1<=n+1+5:=hm1;clear hm1;simp only[SSt.d,SSt.a,SSt.b];walk_at "";refine⟨1,kvs,.inr ⟨rfl,by omega⟩,F,rfl,rfl,ok.mono (by decide),W',(by show m1<=70000;omega),fun c st2 hc hst2=>?_⟩;obtain⟨m2,nm2,pt2,hm2,rfl⟩:=hst2;have hm2':m2<=m1+120:=hm2;clear hm2;simp only[SSt.d,SSt.a,SSt.b];walk_at "";exact fin _ _ _ _ _ _ (ok.mono (by decide)) hne (by omega)
  walk_at "";refine zah (fun e=>?_) fun e=>?_
  ·walk_at "";refine⟨by omega,F,rfl,W',(by show n+1<=70000;omega),fun u1 kvs sz st1 ok hne hst1=>?_⟩;obtain⟨m1,nm,pt,hm1,rfl⟩:=hst1;have hm1':m1<=n+1+200:=hm1;clear hm1;simp only[SSt.d,SSt.a,SSt.b];walk_at "";exact fin _ _ _ _ _ _ ok hne (by omega)
  walk_at "";refine zac _ (inI way [4,5,6,7,8]) ?_;refine zah (fun e=>?_) fun e=>?_
  ·have hw2:=pinI e;simp only[List.mem_cons,List.not_mem_nil,or_false] at hw2;walk_at "";refine zaT (by omega) (by show way-4<5;omega) fun x hx=>?_
   obtain⟨t,rfl⟩:∃ t:Str,x=.str t:=by
    simp only[List.mem_cons,List.not_mem_nil,or_false] at hx;rcases hx with rfl|rfl|rfl|rfl|rfl<;>exact⟨_,rfl⟩
   walk_at "";refine⟨by omega,F,⟨t,rfl⟩,rfl,W',(by show n+1<=68000;omega),fun u1 kvs sz st1 ok hne hst1=>?_⟩;obtain⟨m1,nm,pt,hm1,rfl⟩:=hst1;have hm1':m1<=n+1+200:=hm1;clear hm1;simp only[SSt.d,SSt.a,SSt.b];walk_at "";exact fin _ _ _ _ _ _ ok hne (by omega)
  walk_at "";refine zah (fun e=>?_) fun e=>?_
  ·walk_at "";refine⟨by omega,F,rfl,W',(by show n+1<=70000;omega),fun u1 kvs sz st1 ok hne hst1=>?_⟩;obtain⟨m1,nm,pt,hm1,rfl⟩:=hst1;have hm1':m1<=n+1+200:=hm1;clear hm1;simp only[SSt.d,SSt.a,SSt.b];walk_at "";exact fin _ _ _ _ _ _ ok hne (by omega)
  walk_at "";refine zah (fun e=>?_) fun e=>?_
  ·walk_at "";refine⟨by omega,F,rfl,W',(by show n+1<=68000;omega),fun u1 kvs sz st1 ok hne hst1=>?_⟩;obtain⟨m1,nm,pt,hm1,rfl⟩:=hst1;have hm1':m1<=n+1+250:=hm1;clear hm1;simp only[SSt.d,SSt.a,SSt.b];walk_at "";exact fin _ _ _ _ _ _ ok hne (by omega)
  walk_at "";refine⟨0,.inl ⟨rfl,by omega⟩,F,rfl,W',(by show n+1<=75000;omega),fun u1 kvs sz st1 hu ok hne hst1=>?_⟩;obtain⟨m1,nm,pt,hm1,rfl⟩:=hst1;have hm1':m1<=n+1+5:=hm1;clear hm1;simp only[SSt.d,SSt.a,SSt.b];walk_at "";refine draw (by omega) (by decide) (by decide) fun v v0 v1=>?_;walk_at "";refine zah (fun e=>?_) fun e=>?_
  ·walk_at "";exact fin _ _ _ _ _ _ (ok.mono (by decide)) hne (by omega)
  walk_at "";refine⟨kvs,rfl,ok.mono (by decide),(by show m1+1<=80000;omega),fun r st2 hst2=>?_⟩;obtain⟨m2,hm2,rfl⟩:=hst2;have hm2':m2<=m1+1+50:=hm2;clear hm2;walk_at "";refine draw (by omega) (by decide) (by decide) fun v v0 v1=>?_;walk_at "";exact fin _ _ _ _ _ _ (ok.mono (by decide)) hne (by omega)
end
open PySem L2 ST
def rFl:Nat->PV->PV->Prop
 |0,_,_=>False
 |m+1,x,r=>∃ c,x=pCn c/\CnOk m c/\cz c<=9000/\r=.lst (cj c)
section
variable {P:Program}{w:World}{K:Frag}{mg:Str->Option Value}{base:Heap}
variable {m₀:Nat}
theorem zcq:FnScope ["_law_cond_here"] ["_law_cond_here"] (defScope zbJ):=⟨rfl,rfl,rfl,by decide +kernel,rfl,by decide +kernel,by decide +kernel⟩
theorem zfd {k:Nat}(D:Df K mg "_law_flat" zbJ)(B:Bt mg)(yaj:Kn P w K mg base k "_law_flat" (spV K true (Rl1 (rFl m₀)))):Kn P w K mg base (k+1) "_law_flat" (spV K true (Rl1 (rFl (m₀+1)))):=by
 refine D.okV zcq (fun _ _ _ _ _ _=>bd1 fun _=>rfl) (fun _ _=>Rl1.len) (by decide) (fun f cdv A outer s H E hr=>⟨_,(sc (s_if (t_eq rfl hr (qv (zae rfl hr (qn 0) (qv vi))) (qv vs)) (s1 (zjU (zhQ (qf (zaw rfl yaj hr (ac (zae rfl hr (qn 0) (qv vi)) an))) (qf (zaw rfl yaj hr (ac (zae rfl hr (qn 0) (qv vi)) an)))))) sn)
  (s1 (zjU (zqs (qf (el (ac (vn 0) an))) (qv (zgf B.int (qv (e_ne rfl hr (qv (zae rfl hr (qn 0) (qv vi))) (qv vs))))))))),fun B' xs r h=>?_⟩)
 obtain⟨x0,rfl,h⟩:=h;change (_:US) (endsV true r) ⟨B',[some (.val x0)],none⟩;obtain⟨c,rfl,hc,hz,rfl⟩:=h
 cases c with
 |yes=>
  simp only[pCn];walk_at "";refine cifF (by decide +kernel) ?_;walk_at "";have e:(!Str.ofString "yes"==Str.ofString "yes")=false:=by decide +kernel
  rw[e];exact⟨by decide,by decide,by decide,rfl⟩
 |both l r=>
  simp only[pCn];walk_at "";refine cifT (by decide +kernel) ?_;walk_at ""
  cases m₀ with
  |zero=>exact hc.elim
  |succ m=>
   have hz':1+cz l+cz r<=9000:=hz;clear hz;have h1:=zdf l;have h2:=zdf r;refine zac (.lst (cj l)) ⟨l,rfl,hc.1,by omega,rfl⟩ ?_;walk_at "";refine zac (.lst (cj r)) ⟨r,rfl,hc.2,by omega,rfl⟩ ?_;walk_at "";exact⟨by omega,rfl⟩
 |one t xs=>
  have ho:OnOk t xs:=by cases m₀<;>exact hc
  simp only[pCn];walk_at "";refine cifF (by simpa using ho.1.1) ?_;walk_at "";have e:(!t==Str.ofString "yes")=true:=by simpa using ho.1.2
  rw[e];exact⟨by decide,by decide,by decide,rfl⟩
end
def jn:List Cn->Cn
 |[]=>.yes
 |[c]=>c
 |c::d::r=>.both c (jn (d::r))
def rDj:Nat->PV->PV->Prop
 |0,_,_=>False
 |m+1,x,r=>∃ cs:List Cn,x=.lst (cs.map pCn)/\cs.length<=m/\(∀ c∈cs,CnOk 1 c)/\r=pCn (jn cs)
section
variable {P:Program}{w:World}{K:Frag}{mg:Str->Option Value}{base:Heap}
variable {m₀:Nat}
theorem zaR:FnScope ["_law_some"] ["_law_some"] (defScope zaD):=⟨rfl,rfl,rfl,by decide +kernel,rfl,by decide +kernel,by decide +kernel⟩
theorem zce {k:Nat}(D:Df K mg "_law_due_joined" zaD)(B:Bt mg)(yau:Kn P w K mg base k "_law_due_joined" (spV K false (Rl1 (rDj m₀)))):Kn P w K mg base (k+1) "_law_due_joined" (spV K false (Rl1 (rDj (m₀+1)))):=by
 refine D.okV zaR (fun _ _ _ _ _ _=>bd1 fun _=>rfl) (fun _ _=>Rl1.len) (by decide) (fun f cdv A outer s H E hr=>⟨_,(sc (s_if (t_eq rfl hr (qn 0) (qf (el an))) (s1 (zak (et (ac vs an)))) sn)
  (sc (s_if (t_eq rfl hr (qv (zaW rfl B.len (qn 0))) (qv vi)) (s1 (zak (zae rfl hr (qn 0) (qv vi)))) sn)
  (s1 (zak (et (ac vs (ac (zae rfl hr (qn 0) (qv vi)) (ac (zaG rfl yau hr (ac (e_sl rfl (qn 0) (o_so vi) o_no) an)) an)))))))),fun B' xs r h=>?_⟩)
 obtain⟨x0,rfl,h⟩:=h;change (_:US) (endsV false r) ⟨B',[some (.val x0)],none⟩;obtain⟨cs,rfl,hl,hc,rfl⟩:=h;walk_at "";refine zac _ (by rw[zbn (n:=11) (fun y hy=>by obtain⟨c,hc',rfl⟩:=List.mem_map.mp hy;exact(zdv (hc c hc')).dp) (by decide)]) ?_
 match cs,hl,hc with
 |[],_,_=>
  refine cifT rfl ?_;walk_at "";rfl
 |[c],_,_=>
  refine cifF rfl ?_;walk_at "";refine cifT (by simp) ?_;walk_at "";rfl
 |c::e::r,hl,hc=>
  have hl':r.length+1+1<=m₀:=hl;clear hl;refine cifF rfl ?_;walk_at "";refine cifF ?_ ?_
  ·simp;omega
  walk_at "";refine zac (pCn (jn (e::r))) ?_ ?_
  ·rw[zbA (by decide) (by simp;omega)]
   cases m₀ with
   |zero=>omega
   |succ m=>exact⟨e::r,rfl,by show r.length+1<=m;omega,fun c hc'=>hc c (List.mem_cons_of_mem _ hc'),rfl⟩
  walk_at "";rfl
end
open PySem L2 ST
def cja:List Cn->List PV
 |[]=>[]
 |c::r=>cj c++cja r
def cza:List Cn->Nat
 |[]=>0
 |c::r=>cz c+cza r
def NsOk (m:Nat)(cs:List Cn)(c:Cn):Prop:=CnOk (1+m) c/\cj c=cja cs/\(cs≠[]->cz c+1<=cza cs+3*cs.length)/\(cs=[]->cz c<=1)
theorem zii:∀(xs ys:List Cn),cja (xs++ys)=cja xs++cja ys
 |[],ys=>rfl
 |x::xs,ys=>by rw[List.cons_append,cja,zii xs ys,cja,List.append_assoc]
theorem zia:∀(xs ys:List Cn),cza (xs++ys)=cza xs+cza ys
 |[],ys=>by simp [cza]
 |x::xs,ys=>by rw[List.cons_append,cza,zia xs ys,cza,Nat.add_assoc]
def tNest:Nat->PV->SSt->(PV->SSt->Prop)->Prop
 |0,_,_,_=>False
 |m+1,x,st,Q=>∃ cs:List Cn,x=.lst (cs.map pCn)/\cs.length<=m/\m<=20/\(∀ c∈cs,CnOk 1 c)/\st.n+3*cs.length<=90000/\∀(c:Cn)(st':SSt),NsOk m cs c->Nx st (3*cs.length-1) st'->Q (pCn c) st'
section
variable {P:Program}{w:World}{K:Frag}{mg:Str->Option Value}{base:Heap}
variable {m₀:Nat}
theorem yaH:FnScope ["_law_state","_law_some","_law_cut"] ["_law_state","_law_some"] (defScope zbi):=⟨rfl,rfl,rfl,by decide +kernel,rfl,by decide +kernel,by decide +kernel⟩
theorem zdM {k:Nat}(D:Df K mg "_law_nested" zbi)(B:Bt mg)(yaa:Kn P w K mg base k "_law_take" (spS K false (Tr2 zat)))(yat:Kn P w K mg base k "_law_nested" (spS K false (Tr2 (tNest m₀)))):Kn P w K mg base (k+1) "_law_nested" (spS K false (Tr2 (tNest (m₀+1)))):=by
 refine D.okS yaH (fun _ _ _ _ _ _=>bd2 fun _ _=>rfl) (fun _ _ _=>Tr2.len) (by decide) (fun f cdv A outer s H E hr=>⟨_,(sc (s_if (t_eq rfl hr (qn 1) (qf (el an))) (s1 (zak (et (ac vs an)))) sn)
  (sc (s_if (PW.pt (zcL (t_eq rfl hr (qv (zaW rfl B.len (qn 1))) (qv vi)) (zbO (t_lt (qv (zaa rfl yaa hr (ac (vn 0) (ac vi an)))) (qv vi))))) (s1 (zak (zae rfl hr (qn 1) (qv vi)))) sn)
  (sc (s_if (t_eq rfl hr (qv (zaW rfl B.len (qn 1))) (qv vi)) (s1 (zak (et (ac vs (ac (et (ac vs an)) (ac (zae rfl hr (qn 1) (qv vi)) an)))))) sn)
  (sc (zam (i:=2) yaH.nd (zbc rfl (qv vi) (qv (zaa rfl yaa hr (ac (vn 0) (ac (zbl (qv (zaW rfl B.len (qn 1))) (qv vi)) an))))))
  (s1 (zak (et (ac vs (ac (zaa rfl yat hr (ac (vn 0) (ac (e_sl rfl (qn 1) o_no (o_so (vn 2))) an))) (ac (zaa rfl yat hr (ac (vn 0) (ac (e_sl rfl (qn 1) (o_so (vn 2)) o_no) an))) an)))))))))),fun B' xs st Q h=>?_⟩)
 obtain⟨x1,rfl,h⟩:=h;change (_:US) (endsS false Q) ⟨B',[some (.val (.raw (.ref st.d))),some (.val x1),none],some st⟩;obtain⟨cs,rfl,hl,h20,hc,hn,h⟩:=h;obtain⟨d,a,n,D⟩:=st;have hn':n+3*cs.length<=90000:=hn;clear hn;walk_at "";refine zac _ (by rw[zbn (n:=11) (fun y hy=>by obtain⟨c,hc',rfl⟩:=List.mem_map.mp hy;exact(zdv (hc c hc')).dp) (by decide)]) ?_
 match cs,hl,hc,hn',h with
 |[],_,_,_,h=>
  refine cifT rfl ?_;walk_at "";exact h .yes ⟨d,a,n,D⟩ ⟨CnOk.mono (n:=0) trivial (Nat.zero_le _),rfl,fun z=>absurd rfl z,fun _=>Nat.le_refl _⟩ ⟨n,Nat.le_refl _,rfl⟩
 |[c],hl,hc,hn',h=>
  have hn2:n+3<=90000:=hn';have hc1:=hc c (by simp);refine cifF rfl ?_;walk_at "";refine cifT (by decide) ?_;walk_at "";refine draw (by omega) (by decide) (by decide) fun u u0 u1=>?_;walk_at "";refine zah (fun e=>?_) fun e=>?_
  ·walk_at "";exact h c ⟨d,a,n+1,D⟩ ⟨hc1.mono (by omega),by simp [cja],fun _=>by simp only[cza,List.length_cons,List.length_nil];omega,fun z=>nomatch z⟩ ⟨n+1,(by show n+1<=n+2;omega),rfl⟩
  ·walk_at "";refine cifT (by decide) ?_;walk_at "";obtain⟨k',rfl⟩:∃ k',m₀=k'+1:=⟨m₀-1,by have:1<=m₀:=hl;omega⟩;refine h (.both .yes c) ⟨d,a,n+1,D⟩ ⟨?_,by simp [cja,cj],fun _=>by simp only[cza,cz,List.length_cons,List.length_nil];omega,fun z=>nomatch z⟩ ⟨n+1,(by show n+1<=n+2;omega),rfl⟩;rw[show 1+(k'+1)=(1+k')+1 by omega];exact⟨CnOk.mono (n:=0) trivial (Nat.zero_le _),hc1.mono (by omega)⟩
 |c::e::r,hl,hc,hn',h=>
  have hl':r.length+1+1<=m₀:=hl;clear hl;have hn2:n+3*(r.length+1+1)<=90000:=hn';obtain⟨k',rfl⟩:∃ k',m₀=k'+1:=⟨m₀-1,by omega⟩;have ml:((c::e::r).map pCn).length=r.length+1+1:=by simp
  refine cifF rfl ?_;walk_at "";refine cifF (by simp;omega) ?_;walk_at "";refine cifF (by simp;omega) ?_;walk_at "";refine draw (by omega) (by simp<;>omega) (Int.lt_of_le_of_lt (b:=900) (by simp<;>omega) (by decide)) fun u u0 u1=>?_;walk_at "";have u2':u<r.length+1:=by simp at u1;omega
  generalize hw:c::e::r=ws at *;have wl:ws.length=r.length+1+1:=by rw[<- hw];rfl
  have ew:pCn c::pCn e::r.map pCn=ws.map pCn:=by rw[<- hw];rfl
  rw[ew];have e1:cutP (ws.map pCn) none (some (1+u))=(ws.take (1+u).toNat).map pCn:=by rw[zfH (by omega) (by rw[List.length_map];omega),List.map_take]
  have e2:cutP (ws.map pCn) (some (1+u)) none=(ws.drop (1+u).toNat).map pCn:=by rw[zbA (by omega) (by rw[List.length_map];omega),List.map_drop]
  generalize hj:(1+u).toNat=j at e1 e2;have j1:1<=j:=by omega
  have j2:j<=r.length+1:=by omega
  have t1:(ws.take j).length=j:=by rw[List.length_take];omega
  have t2:(ws.drop j).length=r.length+1+1-j:=by rw[List.length_drop];omega
  rw[e1];refine⟨ws.take j,rfl,by omega,by omega,fun c hc'=>hc c (List.mem_of_mem_take hc'),(by show n+1+_<=90000;omega),fun c1 st1 h1 hst1=>?_⟩;obtain⟨m1,hm1,rfl⟩:=hst1;have hm1':m1<=n+1+(3*(ws.take j).length-1):=hm1;clear hm1;walk_at "";rw[e2];refine⟨ws.drop j,rfl,by omega,by omega,fun c hc'=>hc c (List.mem_of_mem_drop hc'),(by show m1+_<=90000;omega),fun c2 st2 h2 hst2=>?_⟩;obtain⟨m2,hm2,rfl⟩:=hst2;have hm2':m2<=m1+(3*(ws.drop j).length-1):=hm2;clear hm2;walk_at "";have x1:=h1.2.2.1 (fun z=>by rw[z] at t1;simp at t1;omega);have x2:=h2.2.2.1 (fun z=>by rw[z] at t2;simp at t2;omega);have x3:=zia (ws.take j) (ws.drop j);rw[List.take_append_drop] at x3;refine h (.both c1 c2) ⟨d,a,m2,D⟩ ⟨?_,?_,fun _=>?_,fun z=>by rw[z] at wl;simp at wl⟩ ⟨m2,(by show m2<=n+(3*ws.length-1);omega),rfl⟩
  ·rw[show 1+(k'+1)=(1+k')+1 by omega];exact⟨h1.1,h2.1⟩
  ·rw[cj,h1.2.1,h2.2.1,<- zii,List.take_append_drop]
  ·simp only[cz];omega
end
open PySem L2 ST
theorem zlV {z:Str}{ue:UE}{Q:PV->AS->Prop}{B:Addr->Prop}{rho:List (Option Sl)}{S:Option SSt}(h:∀ B',ue ⟨B',rho,S⟩ fun x A2=>A2.rho=rho/\Q (.dic [(.str z,x)]) ⟨B,rho,A2.S⟩):dispB z ue Q ⟨B,rho,S⟩:=h
theorem DD.one (z k:Str)(b:Bool):DD 9 [(.str z,.tup [.str k,.bl b])]:=⟨(by show 1<=9;decide),fun kv h=>⟨z,k,b,List.mem_singleton.mp h⟩⟩
section
variable {P:Program}{w:World}{K:Frag}{mg:Str->Option Value}{base:Heap}
variable {m₀:Nat}
theorem yag:FnScope ["_law_state","_law_frame_here","_law_deep","_law_a","_law_cols","_law_size","_law_way","_law_b","_law_others","_law_other","_law_word_here","_law_kind_here","_law_one","_law_two","_law_found"] ["_law_state","_law_frame_here","_law_deep"] (defScope zbs):=⟨rfl,rfl,rfl,by decide +kernel,rfl,by decide +kernel,by decide +kernel⟩
theorem zer {k:Nat}(D:Df K mg "_law_added" zbs)(B:Bt mg)(yac:Kn P w K mg base k "_law_ask" (spS K false (Tr3 (tAsk m₀))))(yaa:Kn P w K mg base k "_law_take" (spS K false (Tr2 zat)))(yap:Kn P w K mg base k "_law_new" (spS K false (Tr1 tNew)))(yaA:Kn P w K mg base k "_law_kind" (spS K false (Tr2 tKind)))(yah:Kn P w K mg base k "_law_sum" (spS K false (Tr4 (tSumL 3))))(yal:Kn P w K mg base k "_law_may_be" (spV K false (Rl2 (rMay 2))))(yad:Kn P w K mg base k "_law_cond" (spS K false (Tr4 (tCond m₀)))):Kn P w K mg base (k+1) "_law_added" (spS K false (Tr3 (tAdded (m₀+1)))):=by
 refine D.okS yag (fun _ _ _ _ _ _=>bd3 fun _ _ _=>rfl) (fun _ _ _=>Tr3.len) (by decide) (fun f cdv A outer s H E hr=>⟨_,(sc (zcP (zaa rfl yac hr (ac (vn 0) (ac (vn 1) (ac (vn 2) an)))) (g_t (n:=3) rfl rfl (g_c (g_n (i:=3) yag.nd) (g_c (g_n (i:=4) yag.nd) (g_c (g_n (i:=5) yag.nd) g_0)))))
  (sc (zam (i:=6) yag.nd (zaa rfl yaa hr (ac (vn 0) (ac vi an))))
  (sc (s_if (t_eq rfl hr (qn 6) (qv vi)) (s1 (zak (et (ac (et (ac vs (ac (vn 3) (ac (vn 3) an)))) (ac (vn 4) (ac (zge (qv vi) (qn 5)) an)))))) sn)
  (sc (s_if (t_eq rfl hr (qn 6) (qv vi)) (s1 (zak (et (ac (et (ac vs (ac (vn 3) (ac (et (ac vs (ac (vn 3) (ac (zaa rfl yad hr (ac (vn 0) (ac (vn 1) (ac (vn 4) (ac vi an))))) an)))) an)))) (ac (vn 4) (ac (zge (qv vi) (qn 5)) an)))))) sn)
  (sc (zcP (zaa rfl yac hr (ac (vn 0) (ac (vn 1) (ac (zbl (qn 2) (qv (zgf B.int (qv (e_gt (qn 2) (qv vi)))))) an)))) (g_t (n:=3) rfl rfl (g_c (g_n (i:=7) yag.nd) (g_c (g_n (i:=8) yag.nd) (g_c (g_n (i:=9) yag.nd) g_0)))))
  (sc (zam (i:=10) yag.nd (zaa rfl yap hr (ac (vn 0) an)))
  (sc (zam (i:=11) yag.nd (zaa rfl yaA hr (ac (vn 0) (ac (vn 4) an))))
  (sc (zam (i:=12) yag.nd (zaa rfl yah hr (ac (vn 0) (ac (vn 4) (ac (vn 11) (ac vi an))))))
  (sc (zam (i:=13) yag.nd (zaa rfl yah hr (ac (vn 0) (ac (vn 8) (ac (vn 11) (ac vi an))))))
  (sc (zam (i:=14) yag.nd (vf (zlS 10 (et (ac (vn 11) (ac (e_or (zaG rfl yal hr (ac (vn 12) (ac (vn 4) an))) (zeA (zaG rfl yal hr (ac (vn 13) (ac (vn 8) an))))) an))))))
  (s1 (zak (et (ac (et (ac vs (ac (et (ac vs (ac (vn 3) (ac (et (ac (et (ac (vn 10) (ac (vn 12) an))) an)) an)))) (ac (et (ac vs (ac (vn 7) (ac (et (ac (et (ac (vn 10) (ac (vn 13) an))) an)) an)))) an)))) (ac (vn 14) (ac (zbc rfl (qn 5) (qn 9)) an)))))))))))))))),fun B' xs st Q h=>?_⟩)
 obtain⟨x1,x2,rfl,h⟩:=h;change (_:US) (endsS false Q) ⟨B',[some (.val (.raw (.ref st.d))),some (.val x1),some (.val x2),none,none,none,none,none,none,none,none,none,none,none,none],some st⟩;obtain⟨hm,F,rfl,W,hn,h⟩:=h;obtain⟨d,a,n,D⟩:=st;have W':WdOk D:=W;have hn':n<=68000:=hn;clear hn;have fin:∀(r:PV)(kvs:List (PV×PV))(s:Int)(m:Nat)(nm pt:Int),DD 9 kvs->kvs≠[]->m<=n+250->Q (.tup [r,.dic kvs,.int s]) ⟨d,a,m,{ nm:=nm,pt:=pt,x:=D.x,z:=D.z,y:=D.y,tb:=D.tb }⟩:=fun r kvs s m nm pt h1 h2 hm=>h r kvs s _ h1 h2 ⟨m,nm,pt,hm,rfl⟩;walk_at "";refine⟨0,.inl ⟨rfl,by omega⟩,F,rfl,W',(by show n<=75000;omega),fun u1 k1 s1 st1 hu1 d1 ne1 hst1=>?_⟩;obtain⟨m1,nm1,pt1,hm1,rfl⟩:=hst1;have hm1':m1<=n+5:=hm1;clear hm1;obtain⟨_,rfl⟩:=hu1 rfl;simp only[SSt.d,SSt.a,SSt.b];walk_at "";refine draw (by omega) (by decide) (by decide) fun u u0 u1'=>?_;walk_at "";refine zah (fun e=>?_) fun e=>?_
 ·walk_at "";exact⟨.inl (by decide),fin _ _ _ _ _ _ (d1.mono (by omega)) ne1 (by omega)⟩
 walk_at "";refine zah (fun e=>?_) fun e=>?_
 ·walk_at "";refine⟨1,k1,.inr ⟨rfl,by omega⟩,F,rfl,rfl,d1.mono (by decide),W',(by show m1+1<=70000;omega),fun c st2 hc hst2=>?_⟩;obtain⟨m2,nm2,pt2,hm2,rfl⟩:=hst2;have hm2':m2<=m1+1+120:=hm2;clear hm2;simp only[SSt.d,SSt.a,SSt.b];walk_at "";exact⟨.inl (by decide),fin _ _ _ _ _ _ (d1.mono (by omega)) ne1 (by omega)⟩
 walk_at "";refine⟨0,.inl ⟨rfl,by omega⟩,F,rfl,W',(by show m1+1<=75000;omega),fun u2 k2 s2 st2 hu2 d2 ne2 hst2=>?_⟩;obtain⟨m2,nm2,pt2,hm2,rfl⟩:=hst2;have hm2':m2<=m1+1+5:=hm2;clear hm2;obtain⟨_,rfl⟩:=hu2 rfl;simp only[SSt.d,SSt.a,SSt.b];walk_at "";refine⟨W',fun z st3 hz hst3=>?_⟩;obtain⟨m3,nm3,pt3,hm3,rfl⟩:=hst3;have hm3':m3<=m2+0:=hm3;clear hm3;simp only[SSt.d,SSt.a,SSt.b];walk_at "";refine⟨k1,rfl,d1.mono (by decide),(by show m3<=90000;omega),fun kk st4 hst4=>?_⟩;obtain⟨m4,hm4,rfl⟩:=hst4;have hm4':m4<=m3+1:=hm4;clear hm4;simp only[SSt.d,SSt.a,SSt.b];walk_at "";refine⟨2,by decide,k1,kk,rfl,rfl,rfl,d1.mono (by decide),(by show m4+12<=90000;omega),fun e1 st5 he1 hst5=>?_⟩;obtain⟨m5,hm5,rfl⟩:=hst5;have hm5':m5<=m4+12:=hm5;clear hm5;simp only[SSt.d,SSt.a,SSt.b];walk_at "";refine⟨2,by decide,k2,kk,rfl,rfl,rfl,d2.mono (by decide),(by show m5+12<=90000;omega),fun e2 st6 he2 hst6=>?_⟩;obtain⟨m6,hm6,rfl⟩:=hst6;have hm6':m6<=m5+12:=hm6;clear hm6;simp only[SSt.d,SSt.a,SSt.b];walk_at "";refine zlV fun B2=>?_;walk_at "";refine zac (.bl (mayB k1 e1)) ⟨k1,e1,rfl,rfl,he1,rfl⟩ ?_;walk_at "";refine zah (fun e=>?_) fun e=>?_
 ·walk_at "";exact fin _ _ _ _ _ _ (DD.one _ _ _) (by simp) (by omega)
 ·walk_at "";refine zac (.bl (mayB k2 e2)) ⟨k2,e2,rfl,rfl,he2,rfl⟩ ?_;walk_at "";exact fin _ _ _ _ _ _ (DD.one _ _ _) (by simp) (by omega)
end
open PySem L2 ST
theorem zpN {n:Nat}{xs:List PV}(h:∀ x∈xs,Pn n x):peq (.lst xs) (.lst xs)=true:=by
 have:=(zbe (n+1) (x:=.tup xs) (y:=.tup xs) h h).mpr rfl;exact this
theorem zlF {n:Nat}{xs:List PV}(neg:Bool)(h:∀ x∈xs,Pn n x)(l:n<80):gEq neg (.lst xs) (.lst xs) (.bl (!neg)):=
 ⟨⟨n+1,l,dp_l fun x hx=>(h x hx).dp,dp_l fun x hx=>(h x hx).dp⟩,by rw[zpN h];cases neg<;>rfl⟩
theorem zqk {n:Nat}{x:PV}(neg:Bool)(h:Pn n x)(l:n<=80):gEq neg x x (.bl (!neg)):=
 ⟨⟨n,l,h.dp,h.dp⟩,by rw[(zbe n h h).mpr rfl];cases neg<;>rfl⟩
theorem zot (neg b:Bool):gEq neg (.bl b) (.bl b) (.bl (!neg)):=⟨⟨0,by decide,zlU _ _,zlU _ _⟩,by cases neg<;>cases b<;>rfl⟩
theorem zkW {n:Nat}{x:PV}{ys:List PV}(hx:Pn n x)(hy:∀ y∈ys,Pn n y):pin x ys=decide (fl x∈ys.map fl):=by
 rw[Bool.eq_iff_iff];unfold pin;rw[List.any_eq_true,decide_eq_true_eq,List.mem_map];constructor
 ·rintro⟨y,h,e⟩;exact⟨y,h,by rw[(zbe n (hy y h) hx).mp e]⟩
 ·rintro⟨y,h,e⟩;exact⟨y,h,(zbe n (hy y h) hx).mpr (zhJ (hy y h) hx e)⟩
theorem zhl {n:Nat}:∀{xs ys:List PV},(∀ x∈xs,Pn n x)->(∀ y∈ys,Pn n y)->(xs.filter fun x=>!pin x ys).isEmpty=(xs.map fl).all fun f=>decide (f∈ys.map fl)
 |[],_,_,_=>rfl
 |x::xs,ys,hx,hy=>by
  have ih:=zhl (xs:=xs) (fun z hz=>hx z (List.mem_cons_of_mem _ hz)) hy;rw[List.filter_cons,List.map_cons,List.all_cons,<- zkW (hx x List.mem_cons_self) hy];cases pin x ys
  ·rfl
  ·simpa using ih
theorem zgl {α:Type} [DecidableEq α] (xs ys:List α):alikeL xs ys=alikeL ys xs:=by
 unfold alikeL;exact Bool.and_comm _ _
theorem ziq (a b:List (List Fl)):alikeL a b=((a.all fun f=>decide (f∈b))&&b.all fun f=>decide (f∈a)):=by
 rw[Bool.eq_iff_iff];unfold alikeL;simp only[Bool.and_eq_true,List.all_eq_true,decide_eq_true_eq]
theorem zjA (xs:List PV)(z:PV):cutP (xs++[z]) none (some (-1))=xs:=by
 unfold cutP
 have e:HT.sIx (xs++[z]).length (xs++[z]).length (some (-1))=xs.length:=by
  show(if (-1:Int)<0 then ((-1:Int)+((xs++[z]).length:Nat)).toNat else min (-1:Int).toNat (xs++[z]).length)=_;rw[if_pos (by decide),List.length_append,List.length_singleton];omega
 rw[e,HT.sIx_none,Nat.sub_zero,List.drop_zero,List.take_left]
theorem zmh {α:Type}(xs:List α)(z:α):atI (xs++[z]) (-1)=some z:=by
 have e:ixN (xs++[z]).length (-1)=some xs.length:=by
  unfold ixN;rw[List.length_append,List.length_singleton];simp<;>omega
 unfold atI;rw[e];simp
theorem zif {k:Nat}{ix:List Nat}{A1:AS}{g:UG}{t:UT}{ue:UE}{Q:PV->AS->Prop}(l:List PV)(p:PV->Bool)(few:l.length<=1000000)(each:∀ B x,x∈l->∀(Rs:PV->AS->Prop)(Rn:AS->Prop),(∀ A4,p x=true->Kp k ix A1.rho A4->A4.S=A1.S->Rs x A4)->(∀ A4,p x=false->Kp k ix A1.rho A4->A4.S=A1.S->Rn A4) ->
  g x ⟨B,inn k ix A1.rho,A1.S⟩ fun A2=>t A2 fun b A3=>cif b (fun A=>ue A Rs) Rn A3)(fin:Q (.lst (l.filter p)) A1):compB k ix l A1 g t ue Q:=by
 have q:=zco (Q:=Q) (k:=k) (ix:=ix) (A1:=A1) (g:=g) (t:=t) (ue:=ue) l id id p few each (by rw[List.map_id];exact fin);rwa [List.map_id] at q
open PySem L2 ST
def rJoin (x r:PV):Prop:=∃ cs:List Cn,x=.lst (cs.map pCn)/\cs.length<=20/\r=pCn (jn cs)
def rSame (x y r:PV):Prop:=∃(n:Nat)(xs:List PV),x=.lst xs/\y=.lst xs/\(∀ z∈xs,Pn n z)/\n<80/\r=.bl true
def AkOk (c:Cn):Prop:=CnOk 8 c/\cz c<=9000/\(cj c).length<=18
def rAlike (x y r:PV):Prop:=∃ c d:Cn,x=pCn c/\y=pCn d/\AkOk c/\AkOk d/\r=.bl (alikeL ((cj c).map fl) ((cj d).map fl))
theorem zlt (x z:Cn):∀ l:List Cn,jn (x::(l++[z]))=.both x (jn (l++[z]))
 |[]=>rfl
 |_::_=>rfl
section
variable {P:Program}{w:World}{K:Frag}{mg:Str->Option Value}{base:Heap}
theorem yaR:FnScope ["conds","whole","cond"] ["conds"] (defScope zdS):=⟨rfl,rfl,rfl,by decide +kernel,rfl,by decide +kernel,by decide +kernel⟩
theorem zjg {k:Nat}(D:Df K mg "joined" zdS)(B:Bt mg):Kn P w K mg base (k+1) "joined" (spV K false (Rl1 rJoin)):=by
 refine D.okV yaR (fun _ _ _ _ _ _=>bd1 fun _=>rfl) (fun _ _=>Rl1.len) (by decide) (fun f cdv A outer s H E hr=>⟨_,(sc (s_if (zgu (zdX rfl (qn 0))) (s1 (zak (et (ac vs an)))) sn)
  (sc (zam (i:=1) yaR.nd (zae rfl hr (qn 0) (qv (zlP vi))))
  (sc (zbC PassesOwn.never rfl (zqa rfl B.reversed (vf (zgd rfl (qn 0) o_no (o_so (zlP vi))))) (g_n (i:=2) yaR.nd)
  (s1 (zam (i:=1) yaR.nd (et (ac vs (ac (vn 2) (ac (vn 1) an)))))))
  (s1 (zak (vn 1)))))),fun B' xs r h=>?_⟩)
 obtain⟨x0,rfl,h⟩:=h;change (_:US) (endsV false r) ⟨B',[some (.val x0),none,none],none⟩;obtain⟨cs,rfl,hl,rfl⟩:=h;rcases zgC cs with rfl|⟨cs,z,rfl⟩
 ·walk_at "";refine cifT rfl ?_;walk_at "";rfl
 walk_at "";refine cifF (by simp) ?_;walk_at "";rw[List.map_append,List.map_cons,List.map_nil];refine zac _ (zmh _ _) ?_;walk_at "";rw[zjA];refine⟨cs.map pCn,rfl,?_⟩;rw[<- List.map_reverse];refine zcz cs.reverse pCn (fun dd A=>∃ o,A=⟨B',[some (.val (.lst (cs.map pCn++[pCn z]))),some (.val (pCn (jn (dd.reverse++[z])))),o],none⟩) ⟨none,rfl⟩ (fun _ _ _=>trivial) ?_ ?_
 ·rintro dd x rr A2 e ⟨o,rfl⟩;walk_at "";refine⟨some (.val (pCn x)),?_⟩;rw[List.reverse_append,List.reverse_singleton,List.singleton_append,List.cons_append,zlt,pCn]
 ·rintro A2 ⟨o,rfl⟩;rw[List.reverse_reverse];walk_at ""
theorem zbZ:FnScope ["_law_found","_law_due"] ["_law_found","_law_due"] (defScope zaI):=⟨rfl,rfl,rfl,by decide +kernel,rfl,by decide +kernel,by decide +kernel⟩
theorem zcx {k:Nat}(D:Df K mg "_law_same_list" zaI)(B:Bt mg):Kn P w K mg base (k+1) "_law_same_list" (spV K false (Rl2 rSame)):=by
 refine D.okV zbZ (fun _ _ _ _ _ _=>bd2 fun _ _=>rfl) (fun _ _=>Rl2.len) (by decide) (fun f cdv A outer s H E hr=>⟨_,(s1 (zak (zhR (zhP .list rfl B.isinstance B.list PyProof.Rows.boot_list (qn 0)) (zeA (e_eq rfl hr (qn 0) (qn 1)))))),fun B' xs r h=>?_⟩);obtain⟨x0,x1,rfl,h⟩:=h;change (_:US) (endsV false r) ⟨B',[some (.val x0),some (.val x1)],none⟩;obtain⟨n,xs,rfl,rfl,hx,hn,rfl⟩:=h;walk_at "";exact zac _ (zlF false hx hn) rfl
theorem ziG:FnScope ["one","other"] ["one","other"] (defScope d_alike):=⟨rfl,rfl,rfl,by decide +kernel,rfl,by decide +kernel,by decide +kernel⟩
theorem zls {k:Nat}(D:Df K mg "alike" d_alike)(B:Bt mg)(ybU:Kn P w K mg base k "flat" (spV K false (Rl1 rFlat)))(yan:Kn P w K mg base k "conjuncts" (spV K true (Rl1 rConj))):Kn P w K mg base (k+1) "alike" (spV K false (Rl2 rAlike)):=by
 refine D.okV ziG (fun _ _ _ _ _ _=>bd2 fun _ _=>rfl) (fun _ _=>Rl2.len) (by decide) (fun f cdv A outer s H E hr=>⟨_,(s1 (zak (zlR rfl hr rfl B.set (qf (zcu (N:=["cond"]) (k:=1) (ix:=[]) cS0 rfl (iv rfl (vf (zaw rfl yan hr (ac (vn 0) an)))) (fun _ _ _ _=>(g_n (i:=0) (by show(["cond"]:List Str).Nodup;decide +kernel))) (fun _ _ _ _=>f_0) (fun _ _ _ _=>(zaG rfl ybU hr (ac (vn 0) an))))) (qf (zcu (N:=["cond"]) (k:=1) (ix:=[]) cS0 rfl (iv rfl (vf (zaw rfl yan hr (ac (vn 1) an)))) (fun _ _ _ _=>(g_n (i:=0) (by show(["cond"]:List Str).Nodup;decide +kernel))) (fun _ _ _ _=>f_0) (fun _ _ _ _=>(zaG rfl ybU hr (ac (vn 0) an)))))))),fun B' xs r h=>?_⟩);obtain⟨x0,x1,rfl,h⟩:=h;change (_:US) (endsV false r) ⟨B',[some (.val x0),some (.val x1)],none⟩;obtain⟨c,d,rfl,rfl,hc,hd,rfl⟩:=h
 have one:∀{c:Cn},AkOk c->∀ x∈cj c,rFlat x (pFs (fl x)):=fun h x hx=>by
  have q:=zdq h.1 x hx;exact⟨10,by decide,q.1,by omega,rfl⟩
 have lc:=hc.2.2;have ld:=hd.2.2;have mp:∀ l:List PV,l.map (fun x=>pFs (fl x))=(l.map fl).map pFs:=fun l=>by rw[List.map_map];rfl
 walk_at "";refine zac (.lst (cj c)) ⟨8,c,rfl,hc.1,by decide,hc.2.1,rfl⟩ ?_;walk_at "";refine zfI (fun x=>pFs (fl x)) (by omega) (fun B x hx R hR=>?_) ?_
 ·walk_at "";refine zac _ (one hc x hx) ?_;walk_at "";exact hR _ ⟨rfl,rfl⟩ rfl
 ·refine⟨(cj c).map fl,⟨by rw[mp],by rw[List.length_map];exact lc⟩,?_⟩;walk_at "";refine zac (.lst (cj d)) ⟨8,d,rfl,hd.1,by decide,hd.2.1,rfl⟩ ?_;walk_at "";refine zfI (fun x=>pFs (fl x)) (by omega) (fun B x hx R hR=>?_) ?_
  ·walk_at "";refine zac _ (one hd x hx) ?_;walk_at "";exact hR _ ⟨rfl,rfl⟩ rfl
  ·exact⟨(cj d).map fl,⟨by rw[mp],by rw[List.length_map];exact ld⟩,rfl⟩
theorem yay:FnScope ["_law_one","_law_other","_law_mine","_law_yours"] ["_law_one","_law_other"] (defScope zaJ):=⟨rfl,rfl,rfl,by decide +kernel,rfl,by decide +kernel,by decide +kernel⟩
theorem zcy {k:Nat}(D:Df K mg "_law_alike_due" zaJ)(B:Bt mg)(yaj:Kn P w K mg base k "_law_flat" (spV K true (Rl1 (rFl 9)))):Kn P w K mg base (k+1) "_law_alike_due" (spV K false (Rl2 rAlike)):=by
 refine D.okV yay (fun _ _ _ _ _ _=>bd2 fun _ _=>rfl) (fun _ _=>Rl2.len) (by decide) (fun f cdv A outer s H E hr=>⟨_,(sc (zam (i:=2) yay.nd (vf (zaw rfl yaj hr (ac (vn 0) an))))
  (sc (zam (i:=3) yay.nd (vf (zaw rfl yaj hr (ac (vn 1) an))))
  (s1 (zak (zhR (e_eq rfl hr (qf (zcu (N:=["_law_cond_here","_law_yours"]) (k:=1) (ix:=[3]) cS rfl (i_n rfl 2) (fun _ _ _ _=>(g_n (i:=0) (by show(["_law_cond_here","_law_yours"]:List Str).Nodup;decide +kernel))) (fun _ _ _ _=>(f_1 (zjR rfl hr (qn 0) (qn 1)))) (fun _ _ _ _=>(vn 0)))) (qf (el an))) (zeA (e_eq rfl hr (qf (zcu (N:=["_law_cond_here","_law_mine"]) (k:=1) (ix:=[2]) cS rfl (i_n rfl 3) (fun _ _ _ _=>(g_n (i:=0) (by show(["_law_cond_here","_law_mine"]:List Str).Nodup;decide +kernel))) (fun _ _ _ _=>(f_1 (zjR rfl hr (qn 0) (qn 1)))) (fun _ _ _ _=>(vn 0)))) (qf (el an))))))))),fun B' xs r h=>?_⟩)
 obtain⟨x0,x1,rfl,h⟩:=h;change (_:US) (endsV false r) ⟨B',[some (.val x0),some (.val x1),none,none],none⟩;obtain⟨c,d,rfl,rfl,hc,hd,rfl⟩:=h;have lc:=hc.2.2;have ld:=hd.2.2;have pc:∀ x∈cj c,Pn 10 x:=fun x hx=>(zdq hc.1 x hx).1;have pd:∀ x∈cj d,Pn 10 x:=fun x hx=>(zdq hd.1 x hx).1
 have oc:∀{c:Cn},AkOk c->∀ x∈cj c,∀ o:OC,x≠o.pv:=fun h x hx o=>by
  obtain⟨xs,rfl⟩:=(zdq h.1 x hx).2.2;cases o<;>(intro z;cases z)
 walk_at "";refine zac (.lst (cj c)) ⟨c,rfl,hc.1,hc.2.1,rfl⟩ ?_;walk_at "";refine zac (.lst (cj d)) ⟨d,rfl,hd.1,hd.2.1,rfl⟩ ?_;walk_at ""
 have ask:∀{c d:Cn},AkOk c->AkOk d->∀ x∈cj c,gInA true x (.lst (cj d)) (.bl (!pin x (cj d))):=fun h h' x hx=>by
  rw[zkm];exact⟨oc h x hx,⟨10,by decide,(zdq h.1 x hx).1.dp,fun p hp=>(zdq h'.1 p hp).1.dp⟩,by rw[Bool.true_xor]⟩
 refine zif (cj c) (fun x=>!pin x (cj d)) (by omega) (fun B x hx Rs Rn h1 h2=>?_) ?_
 ·walk_at "";refine zac _ (ask hc hd x hx) ?_;refine zah (fun e=>?_) fun e=>?_
  ·walk_at "";exact h1 _ e ⟨rfl,rfl⟩ rfl
  ·walk_at "";exact h2 _ e ⟨rfl,rfl⟩ rfl
 walk_at "";refine zac _ (by rw[zbn (n:=10) (fun x hx=>(pc x (List.mem_filter.mp hx).1).dp) (by decide)]) ?_;rw[zhl pc pd];walk_at "";rw[ziq];refine zah (fun e=>?_) fun e=>?_
 ·rw[e];walk_at "";refine zif (cj d) (fun x=>!pin x (cj c)) (by omega) (fun B x hx Rs Rn h1 h2=>?_) ?_
  ·walk_at "";refine zac _ (ask hd hc x hx) ?_;refine zah (fun e=>?_) fun e=>?_
   ·walk_at "";exact h1 _ e ⟨rfl,rfl⟩ rfl
   ·walk_at "";exact h2 _ e ⟨rfl,rfl⟩ rfl
  walk_at "";refine zac _ (by rw[zbn (n:=10) (fun x hx=>(pd x (List.mem_filter.mp hx).1).dp) (by decide)]) ?_;rw[zhl pd pc,Bool.true_and]
 ·rw[e];rfl
end
open PySem L2 ST
theorem zoA {ts:List TbI}{D:Bs}(h:FrOk ts)(W:WdOk D)(y:PV):Frm (.tup [.tup (ts.map fun t=>pT (tb (wf D) t)),y]):=by
 refine⟨ts.map (tb (wf D)),y,by rw[List.map_map];rfl,fun e=>h.1 (List.map_eq_nil_iff.mp e),by rw[List.length_map];exact h.2.1,fun t ht=>?_⟩;obtain⟨t',h1,rfl⟩:=List.mem_map.mp ht;have T:=h.2.2 t' h1;refine⟨fun e=>T.ne (List.map_eq_nil_iff.mp e),by show(t'.cs.map _).length<=3;rw[List.length_map];exact T.l3,fun c hc=>?_⟩;obtain⟨c',h2,rfl⟩:=List.mem_map.mp hc;show(wordOf D _).length<=10;rw[zfs W];have:=W.1;omega
theorem zli {n:Nat}{xs:List PV}(h:∀ x∈xs,Pn n x)(l:n<80):gEq true (.lst xs) (.lst []) (.bl (!xs.isEmpty)):=
 ⟨⟨n+1,l,dp_l fun x hx=>(h x hx).dp,dp_l fun x hx=>by cases hx⟩,by cases xs<;>rfl⟩
theorem zqz {cs:List Cn}{i:Int}(h0:0<=i)(h1:i<cs.length):∃ c∈cs,atI (cs.map pCn) i=some (pCn c):=by
 have hl:i.toNat<cs.length:=by omega
 refine⟨cs[i.toNat],List.getElem_mem hl,?_⟩
 have e:ixN (cs.map pCn).length i=some i.toNat:=by
  unfold ixN;rw[List.length_map,if_pos h0,if_pos h1]
 unfold atI;rw[e];simp [hl]
theorem zjk {I R u:US}{E:UEnds}{A:AS}{c:Bool}(Iv:AS->Prop)(tail:∀ A,Iv A->R E A)(rest:∀ T:US,(∀ A,Iv A->T E A)->cif c (u { E with nx:=fun A1=>uSeq I T E A1 }) (uNext { E with nx:=fun A1=>uSeq I T E A1 }) A):cif c (u { E with nx:=fun A1=>uSeq I R E A1 }) (uNext { E with nx:=fun A1=>uSeq I R E A1 }) A:=rest R tail
theorem zqv (xs:List PV):cutP xs (some 1) none=xs.drop 1:=by
 cases xs with
 |nil=>rfl
 |cons x r=>rw[zbA (by decide) (by rw[List.length_cons];omega)];rfl
theorem znY:∀{cs:List Cn},(∀ c∈cs,CnOk 1 c)->CnOk (1+cs.length) (jn cs)
 |[],_=>trivial
 |[c],h=>(h c List.mem_cons_self).mono (Nat.le_add_right _ _)
 |c::e::r,h=>by
  have q:=znY (cs:=e::r) fun x hx=>h x (List.mem_cons_of_mem _ hx);rw[List.length_cons,<- Nat.add_assoc];exact⟨(h c List.mem_cons_self).mono (by omega),q⟩
theorem zoa:∀{cs:List Cn},cj (jn cs)=cja cs
 |[]=>rfl
 |[c]=>by simp [jn,cja]
 |c::e::r=>by rw[jn,cj,zoa (cs:=e::r)];rfl
theorem znZ:∀{cs:List Cn},cz (jn cs)<=cza cs+cs.length+1
 |[]=>by decide
 |[c]=>by simp only[jn,cza];omega
 |c::e::r=>by
  have:=znZ (cs:=e::r);simp only[jn,cz,cza,List.length_cons] at *;omega
def Cs (cs:List Cn):Prop:=∀ c∈cs,CcOk 1 c
theorem Cs.snoc {cs:List Cn}{c:Cn}(h:Cs cs)(hc:CcOk 1 c):Cs (cs++[c]):=fun x hx=>by
 rcases List.mem_append.mp hx with e|e
 ·exact h x e
 ·rw[List.mem_singleton.mp e];exact hc
theorem Cs.cza:∀{cs:List Cn},Cs cs->cza cs<=3*cs.length
 |[],_=>Nat.le_refl _
 |c::r,h=>by
  have:=Cs.cza (cs:=r) fun x hx=>h x (List.mem_cons_of_mem _ hx);have:=(h c List.mem_cons_self).2;simp only[K07.cza,List.length_cons];omega
theorem zmc {c:Cn}(h:CcOk 1 c):(cj c).length<=2:=by
 have h2:=h.2
 cases c with
 |yes=>simp [cj]
 |one t xs=>simp [cj]
 |both l r=>
  have h3:1+cz l+cz r<=3:=h2;have:=zdf l;have:=zdf r;simp only[cj,List.length_append];omega
theorem zfq:∀{cs:List Cn},Cs cs->(cja cs).length<=2*cs.length
 |[],_=>Nat.le_refl _
 |c::r,h=>by
  have:=zfq (cs:=r) fun x hx=>h x (List.mem_cons_of_mem _ hx);have:=zmc (h c List.mem_cons_self);simp only[cja,List.length_append,List.length_cons];omega
theorem zoZ {cs:List Cn}(h:Cs cs):∀ x∈cs.map pCn,Pn 11 x:=fun x hx=>by
 obtain⟨c,hc,rfl⟩:=List.mem_map.mp hx;exact zdv (h c hc).1
section
variable {P:Program}{w:World}{K:Frag}{mg:Str->Option Value}{base:Heap}
def spLaw (K:Frag):Sp:=fun vs H Q _=>∃(a:Addr)(ns:List Int),vs=[.ref a]/\Only H/\SqL K H a (ns.map V.int)/\ns.length<=63/\∀ H',Q (.bl true) H'
theorem sc_law:FnScope ["_law_script","_law_state","_law_frame_here","_law_ask_here","_law_cols","_law_size","_law_some","_law_k","_law_cond_here","_law_turn","_law_others","_law_way","_law_other","_law_handed","_law_made","_law_due","_law_found","_law_again"] ["_law_script"] (defScope d_law):=⟨rfl,rfl,rfl,by decide +kernel,rfl,by decide +kernel,by decide +kernel⟩
theorem zpS {k:Nat}{f:Addr}{fd:FuncData}(F:Fun K "law" "law" d_law f fd)(B:Bt mg)(Be:Kn P w K mg base k "_law_begin" (spBegin K))(ybh:Kn P w K mg base k "_law_frame" (spS K false (Tr1 tFrame)))(yac:Kn P w K mg base k "_law_ask" (spS K false (Tr3 (tAsk 6))))(yat:Kn P w K mg base k "_law_nested" (spS K false (Tr2 (tNest 8))))(yaa:Kn P w K mg base k "_law_take" (spS K false (Tr2 zat)))(ybV:Kn P w K mg base k "joined" (spV K false (Rl1 rJoin)))(yaC:Kn P w K mg base k "_law_alike_due" (spV K false (Rl2 rAlike)))(yan:Kn P w K mg base k "conjuncts" (spV K true (Rl1 rConj)))(yad:Kn P w K mg base k "_law_cond" (spS K false (Tr4 (tCond 6))))(ybl:Kn P w K mg base k "alike" (spV K false (Rl2 rAlike)))(yaD:Kn P w K mg base k "_law_same_list" (spV K false (Rl2 rSame)))(yau:Kn P w K mg base k "_law_due_joined" (spV K false (Rl1 (rDj 8))))(yaj:Kn P w K mg base k "_law_flat" (spV K true (Rl1 (rFl 9)))):FnOk P w K mg base CX0 (k+1) f fd ["_law_script"] (spLaw K):=by
 refine F.ok sc_law (fun vs H Q E h=>by obtain⟨a,ns,rfl,_⟩:=h;rfl) (fun cdv A outer s H vs Q E hr h=>?_);obtain⟨a,ns,rfl,hO,hS,hl,q⟩:=h;obtain⟨bf,bd,bps,bF,bb,bk,bm⟩:=Be.ex
 refine⟨_,zan (zba (i:=1) sc_law.nd rfl (by first|exact Or.inl rfl|exact Or.inr rfl) (zaV bF hr rfl bm bk bb .nil zdl (zaf (pv 0) pa_nil))) (sc (zam (i:=2) sc_law.nd (zaa rfl ybh hr (ac (vn 1) an)))
  (sc (zcP (zaa rfl yac hr (ac (vn 1) (ac (vn 2) (ac vi an)))) (g_t (n:=3) rfl rfl (g_c (g_n (i:=3) sc_law.nd) (g_c (g_n (i:=4) sc_law.nd) (g_c (g_n (i:=5) sc_law.nd) g_0)))))
  (sc (zkS (i:=6) sc_law.nd (N:=["_law_k","_law_state","_law_frame_here","_law_cols"]) (k:=1) (ix:=[1,2,4]) cS rfl (zga (by rfl) B.range (zaa rfl yaa hr (ac (vn 1) (ac vi an)))) (fun _ _ _ _=>(g_n (i:=0) (by show(["_law_k","_law_state","_law_frame_here","_law_cols"]:List Str).Nodup;decide +kernel))) (fun _ _ _ _=>f_0) (fun _ _ _ _=>(zaa rfl yad hr (ac (vn 1) (ac (vn 2) (ac (vn 3) (ac vi an)))))))
  (sc (zbC PassesOwn.never rfl (zga (by rfl) B.range (zge (qv (zaa rfl yaa hr (ac (vn 1) (ac vi an)))) (qv (zgf B.int (qv (e_ne rfl hr (qn 6) (qf (el an)))))))) (g_n (i:=7) sc_law.nd)
  (s1 (zax (zbU rfl 6 (zae rfl hr (qn 6) (qv (zaa rfl yaa hr (ac (vn 1) (ac (zaW rfl B.len (qn 6)) an)))))))))
  (sc (zam (i:=8) sc_law.nd (zaa rfl yat hr (ac (vn 1) (ac (vn 6) an))))
  (sc (zam (i:=9) sc_law.nd (zaa rfl yaa hr (ac (vn 1) (ac (zbc rfl (qv (zaW rfl B.len (qn 6))) (qv vi)) an))))
  (sc (zaQ (i:=10) sc_law.nd (zhQ (qf (zgd rfl (qn 6) (o_so (vn 9)) o_no)) (qf (zgd rfl (qn 6) o_no (o_so (vn 9))))))
  (sc (zam (i:=11) sc_law.nd (zaa rfl yaa hr (ac (vn 1) (ac vi an))))
  (sc (s_if (t_eq rfl hr (qn 11) (qv vi)) (s1 (zaQ (i:=10) sc_law.nd (zgd rfl (qn 10) (o_so vi) o_no))) sn)
  (sc (s_if (t_eq rfl hr (qn 11) (qv vi)) (s1 (zax (zbU rfl 10 (zaa rfl yad hr (ac (vn 1) (ac (vn 2) (ac (vn 4) (ac vi an)))))))) sn)
  (sc (zam (i:=12) sc_law.nd (zaa rfl yat hr (ac (vn 1) (ac (vn 10) an))))
  (sc (s_if (PW.pt (t_or (zgu (zdX rfl (qv (zaG rfl yaD hr (ac (vf (zaw rfl yan hr (ac (vn 8) an))) (ac (vf (zaw rfl yaj hr (ac (vn 8) an))) an)))))) (ziD (zgu (zdX rfl (qv (zaG rfl yaD hr (ac (vf (zaw rfl yan hr (ac (vn 12) an))) (ac (vf (zaw rfl yaj hr (ac (vn 12) an))) an))))))))) (s1 (zak vb)) sn)
  (sc (zam (i:=13) sc_law.nd (vf (e_list rfl B.list (qn 6))))
  (sc (zam (i:=14) sc_law.nd (zaG rfl ybV hr (ac (vn 13) an)))
  (sc (s_if (PW.pt (t_or (t_ne rfl hr (qn 14) (qv (zaG rfl yau hr (ac (vn 6) an)))) (t_or (t_ne rfl hr (qn 13) (qn 6)) (ziD (t_ne rfl hr (qf (zaw rfl yan hr (ac (vn 14) an))) (qf (zaw rfl yaj hr (ac (vn 14) an)))))))) (s1 (zak vb)) sn)
  (sc (zam (i:=15) sc_law.nd (zaG rfl yaC hr (ac (vn 8) (ac (vn 12) an))))
  (sc (zbC PassesOwn.never rfl (iv rfl (vf (el (ac (zaG rfl ybl hr (ac (vn 8) (ac (vn 12) an))) (ac (zaG rfl ybl hr (ac (vn 12) (ac (vn 8) an))) an))))) (g_n (i:=16) sc_law.nd)
  (s1 (s_if (PW.pt (t_or (zgu (zdX rfl (qv (zhP .bool rfl B.isinstance B.bool PyProof.Rows.boot_bool (qn 16))))) (ziD (t_ne rfl hr (qn 16) (qn 15))))) (s1 (zak vb)) sn)))
  (sc (zaQ (i:=17) sc_law.nd (zaw rfl yan hr (ac (vn 8) an)))
  (sc (zax (zbU rfl 17 (et (ac vs an))))
  (s1 (zak (zhR (e_eq rfl hr (qf (zaw rfl yan hr (ac (vn 8) an))) (qf (zaw rfl yaj hr (ac (vn 8) an)))) (zeA (e_eq rfl hr (qv (zaG rfl ybl hr (ac (vn 8) (ac (vn 14) an)))) (qv (zaG rfl yaC hr (ac (vn 8) (ac (vn 14) an)))))))))))))))))))))))))))),?_⟩
 refine⟨_,rfl,a,rfl,⟨ns,hS,hl⟩,fun d D H1 hd0 Wo S1 s1=>?_⟩;refine zje hO hS hl S1 s1 16 ?_ q;change (_:US) endsL ⟨fun b=>b=d,[some (.val (.raw (.ref a))),some (.val (.raw (.ref d))),none,none,none,none,none,none,none,none,none,none,none,none,none,none,none,none],some ⟨d,a,10,D⟩⟩;walk_at "";refine⟨Wo,(by show 10<=1000;decide),fun ts fy st1 hF hst1=>?_⟩;obtain⟨m1,hm1,rfl⟩:=hst1;have hm1':m1<=10+500:=hm1;clear hm1;have F:=zoA hF Wo fy;simp only[SSt.d,SSt.a,SSt.b];generalize hfr:PV.tup [.tup (ts.map fun t=>pT (tb (wf D) t)),fy]=fr at F;walk_at "";refine⟨1,.inr ⟨rfl,by decide⟩,F,rfl,Wo,(by show m1<=60000;omega),fun u kvs sz st2 _ dd dne hst2=>?_⟩;obtain⟨m2,nm2,pt2,hm2,rfl⟩:=hst2;have hm2':m2<=m1+305:=hm2;clear hm2;simp only[SSt.d,SSt.a,SSt.b];walk_at "";refine draw (by omega) (by decide) (by decide) fun q1 q0 q2=>?_;walk_at "";refine⟨by omega,by omega,?_⟩;refine zkr q1.toNat (fun i ys S=>∃(cs:List Cn)(m:Nat)(nm pt:Int),ys=cs.map pCn/\cs.length=i/\Cs cs/\S=some ⟨d,a,m,{ nm:=nm,pt:=pt,x:=D.x,z:=D.z,y:=D.y,tb:=D.tb }⟩/\m<=m2+1+120*i) (by omega) ⟨[],m2+1,nm2,pt2,rfl,rfl,(fun _ h=>by cases h),rfl,by omega⟩ ?_ ?_
 ·rintro B i ys _ hi ⟨cs,m,nm,pt,rfl,hl,hC,rfl,hm⟩ R hR;walk_at "";refine⟨1,kvs,.inr ⟨rfl,by decide⟩,F,rfl,rfl,dd.mono (by decide),Wo,(by show m<=70000;omega),fun c st3 hc hst3=>?_⟩;obtain⟨m3,nm3,pt3,hm3,rfl⟩:=hst3;have hm3':m3<=m+120:=hm3;clear hm3;simp only[SSt.d,SSt.a,SSt.b];walk_at "";exact hR _ _ ⟨rfl,rfl⟩ ⟨cs++[c],m3,nm3,pt3,by rw[List.map_append];rfl,by rw[List.length_append,hl];rfl,hC.snoc hc,rfl,by omega⟩
 rintro _ _ ⟨cs,m3,nm3,pt3,rfl,hl3,hC3,rfl,hm3⟩;have hm3':m3<=m2+500:=by omega
 have hl3':cs.length<=4:=by omega
 clear hm3 hl3;walk_at "";intro p;walk_at "";refine draw (by omega) (by decide) (by decide) fun r1 r0 r2=>?_;walk_at "";refine zac _ (zli (zoZ hC3) (by decide)) ?_;walk_at "";generalize hv:(if (!(List.map pCn cs).isEmpty)=true then (1:Int) else 0)=v
 have v01:v=0\/(v=1/\1<=cs.length):=by
  cases cs with
  |nil=>exact .inl hv.symm
  |cons c r=>exact .inr ⟨hv.symm,by simp⟩
 generalize hN:r1*v=N
 have hN':0<=N/\N<=2/\(N=0\/1<=cs.length):=by
  rcases v01 with e|⟨e,h1⟩
  ·rw[e,Int.mul_zero] at hN;omega
  ·rw[e,Int.mul_one] at hN;omega
 obtain⟨N0,N2,Nc⟩:=hN';refine⟨.inl ⟨by omega,by omega⟩,by omega,by omega,?_⟩;refine zjo N.toNat (fun i A=>∃(cs':List Cn)(o:Option Sl)(m:Nat),A=⟨fun b=>b=d,[some (.val (.raw (.ref a))),some (.val (.raw (.ref d))),some (.val fr),some (.val u),some (.val (.dic kvs)),some (.val (.int sz)),some (.own p (.lst (cs'.map pCn))),o,none,none,none,none,none,none,none,none,none,none],some ⟨d,a,m,{ nm:=nm3,pt:=pt3,x:=D.x,z:=D.z,y:=D.y,tb:=D.tb }⟩⟩/\cs'.length=cs.length+i/\Cs cs'/\m<=m3+1+i) ⟨cs,none,m3+1,rfl,rfl,hC3,by omega⟩ (fun _ _ _=>trivial) ?_ ?_
 ·rintro i _ hi ⟨cs',o,m,rfl,hl,hC,hm⟩;have ml:((cs'.map pCn).length:Int)=cs'.length:=by rw[List.length_map]
  walk_at "";refine draw (by omega) (by omega) (Int.lt_of_le_of_lt (b:=900) (by omega) (by decide)) fun x x0 x1=>?_;walk_at "";obtain⟨c,hc,ec⟩:=zqz (cs:=cs') x0 (by omega);refine zac _ ec ?_;walk_at "";exact⟨by omega,cs'++[c],some (.val (.int i)),m+1,by rw[List.map_append];rfl,by rw[List.length_append,hl];show cs.length+i+1=_;omega,hC.snoc (hC c hc),by omega⟩
 rintro _ ⟨cs',o,m4,rfl,hl,hC,hm⟩;have hl6:cs'.length<=6:=by omega
 have hm4:m4<=2000:=by omega
 clear hl hm
 have nest:∀{cs:List Cn}{c:Cn},Cs cs->cs.length<=7->NsOk 7 cs c->AkOk c:=fun {cs c} h1 h2 h3=>by
  have z1:=h1.cza
  have z2:cz c<=50:=by
   by_cases e:cs=[]
   ·have:=h3.2.2.2 e;omega
   ·have:=h3.2.2.1 e;omega
  refine⟨h3.1,by omega,?_⟩;rw[h3.2.1];exact Nat.le_trans (zfq h1) (by omega)
 walk_at "";refine⟨cs',rfl,(by show cs'.length<=7;omega),by decide,fun c hc=>(hC c hc).1,(by show m4+_<=90000;omega),fun c1 st5 n1 hst5=>?_⟩;obtain⟨m5,hm5,rfl⟩:=hst5;have hm5':m5<=m4+(3*cs'.length-1):=hm5;clear hm5;have A1:=nest hC (by omega) n1;simp only[SSt.d,SSt.a,SSt.b];walk_at "";have ml:((cs'.map pCn).length:Int)=cs'.length:=by rw[List.length_map]
 refine draw (by omega) (by omega) (Int.lt_of_le_of_lt (b:=900) (by omega) (by decide)) fun y y0 y1=>?_;walk_at "";have e1:cutP (cs'.map pCn) none (some y)=(cs'.take y.toNat).map pCn:=by rw[zfH y0 (by omega),List.map_take]
 have e2:cutP (cs'.map pCn) (some y) none=(cs'.drop y.toNat).map pCn:=by rw[zbA y0 (by omega),List.map_drop]
 rw[e1,e2,<- List.map_append];generalize hds:cs'.drop y.toNat++cs'.take y.toNat=ds;have dl:ds.length=cs'.length:=by rw[<- hds,List.length_append,List.length_drop,List.length_take];omega
 have hD:Cs ds:=fun c hc=>by
  rw[<- hds] at hc;rcases List.mem_append.mp hc with e|e
  ·exact hC c (List.mem_of_mem_drop e)
  ·exact hC c (List.mem_of_mem_take e)
 refine⟨by rw[List.length_map,List.length_map,List.length_drop,List.length_take];omega,fun q=>?_⟩;refine draw (by omega) (by decide) (by decide) fun x x0 x1=>?_;walk_at "";refine zjk (fun A=>∃(es:List Cn)(q':Addr)(m:Nat)(nm pt:Int),A=⟨fun b=>b=d,[some (.val (.raw (.ref a))),some (.val (.raw (.ref d))),some (.val fr),some (.val u),some (.val (.dic kvs)),some (.val (.int sz)),some (.val (.lst (cs'.map pCn))),o,some (.val (pCn c1)),some (.val (.int y)),some (.own q' (.lst (es.map pCn))),some (.val (.int x)),none,none,none,none,none,none],some ⟨d,a,m,{ nm:=nm,pt:=pt,x:=D.x,z:=D.z,y:=D.y,tb:=D.tb }⟩⟩/\es.length<=7/\Cs es/\m<=3000) ?_ ?_;rotate_left
 ·intro T hT;refine zah (fun e=>?_) fun e=>?_
  ·walk_at "";intro p';refine cifF (by rw[show x=2 by simpa using e];decide) ?_;walk_at "";refine hT _ ⟨ds.drop 1,p',m5+1+1,nm3,pt3,by rw[zqv,List.map_drop],by rw[List.length_drop];omega,fun c hc=>hD c (List.mem_of_mem_drop hc),by omega⟩
  ·walk_at "";refine zah (fun e=>?_) fun e=>?_
   ·walk_at "";refine⟨1,kvs,.inr ⟨rfl,by decide⟩,F,rfl,rfl,dd.mono (by decide),Wo,(by show m5+1+1<=70000;omega),fun c st7 hc hst7=>?_⟩;obtain⟨m7,nm7,pt7,hm7,rfl⟩:=hst7;have hm7':m7<=m5+1+1+120:=hm7;clear hm7;simp only[SSt.d,SSt.a,SSt.b];walk_at "";exact⟨by rw[List.length_map];omega,hT _ ⟨ds++[c],q,m7,nm7,pt7,by rw[List.map_append];rfl,by rw[List.length_append,dl];show cs'.length+1<=7;omega,hD.snoc hc,by omega⟩⟩
   ·walk_at "";exact hT _ ⟨ds,q,_,_,_,rfl,by omega,hD,by omega⟩
 rintro _ ⟨es,q',m6,nm6,pt6,rfl,le,hE,hm6⟩;have conj:∀{c:Cn},AkOk c->rConj (pCn c) (.lst (cj c)):=fun A=>⟨8,_,rfl,A.1,by decide,A.2.1,rfl⟩;have flt:∀{c:Cn},AkOk c->rFl 9 (pCn c) (.lst (cj c)):=fun A=>⟨_,rfl,A.1,A.2.1,rfl⟩;have same:∀{c:Cn},AkOk c->rSame (.lst (cj c)) (.lst (cj c)) (.bl true):=fun A=>⟨10,_,rfl,rfl,fun z hz=>(zdq A.1 z hz).1,by decide,rfl⟩;have eqs:∀{c:Cn}(neg:Bool),AkOk c->gEq neg (.lst (cj c)) (.lst (cj c)) (.bl (!neg)):=fun neg A=>zlF neg (n:=10) (fun z hz=>(zdq A.1 z hz).1) (by decide)
 have A3:AkOk (jn cs'):=by
  have z1:=hC.cza;have z2:=znZ (cs:=cs');refine⟨(znY fun c hc=>(hC c hc).1).mono (by omega),by omega,?_⟩;rw[zoa];exact Nat.le_trans (zfq hC) (by omega)
 walk_at "";refine⟨es,rfl,le,by decide,fun c hc=>(hE c hc).1,(by show m6+_<=90000;omega),fun c2 st8 n2 hst8=>?_⟩;obtain⟨m8,hm8,rfl⟩:=hst8;have A2:=nest hE le n2;simp only[SSt.d,SSt.a,SSt.b];walk_at "";refine zac _ (conj A1) ?_;walk_at "";refine zac _ (flt A1) ?_;walk_at "";refine zac _ (same A1) ?_;walk_at "";refine zac _ (conj A2) ?_;walk_at "";refine zac _ (flt A2) ?_;walk_at "";refine zac _ (same A2) ?_;walk_at "";have ak:∀{c e:Cn},AkOk c->AkOk e->rAlike (pCn c) (pCn e) (.bl (alikeL ((cj c).map fl) ((cj e).map fl))):=fun h1 h2=>⟨_,_,rfl,rfl,h1,h2,rfl⟩;refine zac (pCn (jn cs')) ⟨cs',rfl,by omega,rfl⟩ ?_;walk_at "";refine zac (pCn (jn cs')) ⟨cs',rfl,(by show cs'.length<=7;omega),fun c hc=>(hC c hc).1,rfl⟩ ?_;walk_at "";refine zac _ (zqk true (n:=18) (zdv A3.1) (by decide)) ?_;walk_at "";refine zac _ (zlF true (zoZ hC) (by decide)) ?_;walk_at "";refine zac _ (conj A3) ?_;walk_at "";refine zac _ (flt A3) ?_;walk_at "";refine zac _ (eqs true A3) ?_;walk_at "";refine zac _ (ak A1 A2) ?_;walk_at "";refine zac _ (ak A1 A2) ?_;walk_at "";refine zac _ (ak A2 A1) ?_;walk_at "";rw[zgl ((cj c2).map fl)];generalize alikeL ((cj c1).map fl) ((cj c2).map fl)=b;refine zcz [(),()] (fun _=>PV.bl b) (fun _ A=>∃ oo,A=⟨fun b=>b=d,[some (.val (.raw (.ref a))),some (.val (.raw (.ref d))),some (.val fr),some (.val u),some (.val (.dic kvs)),some (.val (.int sz)),some (.val (.lst (cs'.map pCn))),o,some (.val (pCn c1)),some (.val (.int y)),some (.val (.lst (es.map pCn))),some (.val (.int x)),some (.val (pCn c2)),some (.val (.lst (cs'.map pCn))),some (.val (pCn (jn cs'))),some (.val (.bl b)),oo,none],some ⟨d,a,m8,{ nm:=nm6,pt:=pt6,x:=D.x,z:=D.z,y:=D.y,tb:=D.tb }⟩⟩) ⟨none,rfl⟩ (fun _ _ _=>trivial) ?_ ?_
 ·rintro dd _ rr A2 e ⟨oo,rfl⟩;walk_at "";refine zac true (by cases b<;>rfl) ?_;refine cifT rfl ?_;walk_at "";refine zac _ (zot true b) ?_;walk_at "";exact⟨_,rfl⟩
 rintro _ ⟨oo,rfl⟩;walk_at "";refine zac _ (conj A1) ?_;walk_at "";intro p';refine⟨Nat.le_trans A1.2.2 (by decide),zac _ (conj A1) ?_⟩;walk_at "";refine zac _ (flt A1) ?_;walk_at "";refine zac _ (eqs false A1) ?_;walk_at "";refine zac _ (ak A1 A3) ?_;walk_at "";refine zac _ (ak A1 A3) ?_;walk_at "";exact zac _ (zot false _) rfl
end
set_option maxHeartbeats 4000000
open PySem L2
theorem df_mk {K:Frag}{h:Heap}{mg:Str->Option Value}{n:Str}{st:Stmt}{f:Addr}{od an:Option Addr}{sl:Array (Option Value)}{oc kV dc pm cd ct:Value}(X:K.In h)(G:h.Ns mainGlobals mg)(a:PySem.W.nsIn K mainGlobals n=some (some (.ref f)))
  (l:K.lookup f=some ⟨oc,od,.func (PySem.W.fnOf n n (defArgs st) (defBody st) (defScope st) .none kV dc pm an cd ct),sl⟩)(c:PySem.W.codeIn K cd n=true)(k:PySem.W.keepIn K (.ref f)=true):Df K mg n st:=⟨_,_,zoz (st:=st) l c k,PySem.W.mg_of X G a⟩
section
variable {P:Program}{w:World}{K:Frag}{mg:Str->Option Value}{base:Heap}{x:Str}{st:Stmt}{N ps:List Str}{k:Nat}{fr:Bool}
theorem zcw {sp:Sp}(D:Df K mg x st)(S:FnScope N ps (defScope st))(bd:∀(kV doc pm:Value)(an:Option Addr)(cdv ct:Value)(us:List Value),us.length=ps.length->bindArgs (PySem.W.fnOf x x (defArgs st) (defBody st) (defScope st) .none kV doc pm an cdv ct) ⟨us,[]⟩=pure (ps.zip us))
  (no:∀ vs H Q E,sp vs H Q E->False):Kn P w K mg base (k+1) x sp:=by
 obtain⟨f,fd,F,m⟩:=D;exact⟨f,fd,ps,F.ok S (fun vs H Q E h=>(no _ _ _ _ h).elim) (fun _ _ _ _ _ _ _ _ _ h=>(no _ _ _ _ h).elim),F.binds bd,F.kp,m⟩
theorem noV {G:Rel}(no:∀ xs r,¬ G xs r):∀ vs H Q E,spV K fr G vs H Q E->False:=fun vs H Q E h=>by
 obtain⟨B,xs,r,_,_,h,_⟩:=h;exact no xs r h
theorem noS {T:Tr}(no:∀ xs st P,¬ T xs st P):∀ vs H Q E,spS K fr T vs H Q E->False:=fun vs H Q E h=>by
 obtain⟨B,xs,st,P,_,_,_,_,_,h,_⟩:=h;exact no xs st P h
end
theorem all_mk {l:PySem.W.OpenLaw}{w:World}{K:Frag}{h:Heap}{mg:Str->Option Value}{fa:Addr}(X:K.In h)(G:h.Ns mainGlobals mg)(hfa:mg "law"=some (.ref fa))
  (ycJ:Df K mg "flat" zhY)
  (ycm:Df K mg "conjuncts" zbE)
  (ycC:Df K mg "alike" d_alike)
  (ycA:Df K mg "joined" zdS)
  (ybW:Df K mg "_law_begin" sBegin)
  (ybX:Df K mg "_law_digit" sDigit)
  (ybY:Df K mg "_law_mixed" sMixed)
  (ycn:Df K mg "_law_take" sTake)
  (yco:Df K mg "_law_word" zbF)
  (ycx:Df K mg "_law_new" zcl)
  (ybZ:Df K mg "_law_table" zbp)
  (ybL:Df K mg "_law_matched" zaY)
  (ybP:Df K mg "_law_points" zbh)
  (yca:Df K mg "_law_frame" zbr)
  (ybF:Df K mg "_law_constant" zaO)
  (ybG:Df K mg "_law_sum" zck)
  (ybH:Df K mg "_law_compared" zaP)
  (ybr:Df K mg "_law_cond" zbK)
  (ycp:Df K mg "_law_kind" zbH)
  (yaW:Df K mg "_law_meeting" zaX)
  (ycq:Df K mg "_law_part" zbG)
  (yba:Df K mg "_law_may_be" zbj)
  (ybi:Df K mg "_law_shown" zbq)
  (ybs:Df K mg "_law_both" zbL)
  (yaX:Df K mg "_law_grouped" zaZ)
  (ybj:Df K mg "_law_added" zbs)
  (ycr:Df K mg "_law_keys" zbI)
  (ybI:Df K mg "_law_ask" zcm)
  (ybt:Df K mg "_law_flat" zbJ)
  (ybb:Df K mg "_law_nested" zbi)
  (yaJ:Df K mg "_law_due_joined" zaD)
  (ybB:Df K mg "_law_alike_due" zaJ)
  (ybC:Df K mg "_law_same_list" zaI)
  (D_law:Df K mg "law" d_law)
  (z1:PySem.W.nsIn K mainGlobals "abs"=some none)(z2:PySem.W.nsIn K mainGlobals "bool"=some none)(z3:PySem.W.nsIn K mainGlobals "dict"=some none)(z4:PySem.W.nsIn K mainGlobals "int"=some none)(z5:PySem.W.nsIn K mainGlobals "isinstance"=some none)(z6:PySem.W.nsIn K mainGlobals "len"=some none)(z7:PySem.W.nsIn K mainGlobals "list"=some none)(z8:PySem.W.nsIn K mainGlobals "max"=some none)(z9:PySem.W.nsIn K mainGlobals "min"=some none)(z10:PySem.W.nsIn K mainGlobals "range"=some none)(z11:PySem.W.nsIn K mainGlobals "reversed"=some none)(z12:PySem.W.nsIn K mainGlobals "set"=some none)(z13:PySem.W.nsIn K mainGlobals "sorted"=some none)(z14:PySem.W.nsIn K mainGlobals "tuple"=some none) :
  ∃ fd:FuncData,(∀(s:Shared)(v:Value),BindsTo s fd ⟨[v],[]⟩ [("_law_script",v)])/\∀ base:Heap,K.In base->base.Ns mainGlobals mg->FnOk l.prog w K mg base CX0 14 fa fd ["_law_script"] (spLaw K):=by
 have B:Bt mg:=⟨PySem.W.mg_none_of X G z1,PySem.W.mg_none_of X G z2,PySem.W.mg_none_of X G z3,PySem.W.mg_none_of X G z4,PySem.W.mg_none_of X G z5,PySem.W.mg_none_of X G z6,PySem.W.mg_none_of X G z7,PySem.W.mg_none_of X G z8,PySem.W.mg_none_of X G z9,PySem.W.mg_none_of X G z10,PySem.W.mg_none_of X G z11,PySem.W.mg_none_of X G z12,PySem.W.mg_none_of X G z13,PySem.W.mg_none_of X G z14⟩;obtain⟨fl,fld,Fl,ml⟩:=D_law;have e:=hfa.symm.trans ml;cases e;refine⟨fld,?_,fun base Kb Gb=>?_⟩
 ·obtain⟨_,_,_,_,_,_,_,_,_,rfl,_⟩:=Fl.ex;exact fun s u=>.of_eq rfl
 obtain⟨ycK,ycG,yaM,ycb⟩:=ybX;have ycc:=yaM.binds (ps:=["_law_state","_law_most"]) (fun _ _ _ _ _ _=>bd2 fun _ _=>rfl);obtain⟨ycL,ycH,yaN,ycd⟩:=ybY;have yce:=yaN.binds (ps:=["_law_state","_law_most"]) (fun _ _ _ _ _ _=>bd2 fun _ _=>rfl);obtain⟨ybu,ycM,yaa,ybv⟩:=ycn;have ybw:=yaa.binds (ps:=["_law_state","_law_most"]) (fun _ _ _ _ _ _=>bd2 fun _ _=>rfl);obtain⟨ycN,ycI,yaO,ycf⟩:=ybW;have ycg:=yaO.binds (ps:=["_law_script"]) (fun _ _ _ _ _ _=>bd1 fun _=>rfl);have GT:FnOk l.prog w K mg base CX0 2 ybu _ ["_law_state","_law_most"] (spTake K):=zle yaa (ziZ yaM B) ycc yaM.kp ycb (ziY yaN B) yce yaN.kp ycd;have Tk':Tk l.prog w K mg base ybu _:=⟨GT,ybw,yaa.kp,ybv⟩;have ych:Kn l.prog w K mg base 3 "_law_begin" (spBegin K):=⟨_,_,_,zja yaO B Tk',ycg,yaO.kp,ycf⟩;have yae:Kn l.prog w K mg base 2 "_law_take" (spS K false (Tr2 zat)):=⟨_,_,_,GT.imp (fun vs H Q E h=>by obtain⟨B,xs,st,P,q1,q2,q3,q4,q5,q6,q7⟩:=h;exact zkL ⟨B,xs,st,P,q1,q2,q3,q4,q5,zpF q6,q7⟩),ybw,yaa.kp,ybv⟩;have ybx:=zeZ (P:=l.prog) (w:=w) (base:=base) (k:=0) yco B;have yci:=zeo (P:=l.prog) (w:=w) (base:=base) (k:=2) ybZ B (yaa:=yae.mono (by decide)) (yaw:=ybx.mono (by decide));have ybM:=zdn (P:=l.prog) (w:=w) (base:=base) (k:=2) ybL B (yaa:=yae.mono (by decide));have ybQ:=zdL (P:=l.prog) (w:=w) (base:=base) (k:=3) ybP B (yaT:=ybM.mono (by decide)) (yaa:=yae.mono (by decide));have ycj:=zeq (P:=l.prog) (w:=w) (base:=base) (k:=4) yca B (ybd:=yci.mono (by decide)) (yaZ:=ybQ.mono (by decide)) (yaa:=yae.mono (by decide));have ybJ:=zcV (P:=l.prog) (w:=w) (base:=base) (k:=2) ybF B (yaa:=yae.mono (by decide))
 have ycy:∀ m,Kn l.prog w K mg base (3+m) "_law_sum" (spS K false (Tr4 (tSumL m))):=fun m=>by
  induction m with
  | zero=>exact zcw (k:=2) ybG yaz (fun _ _ _ _ _ _=>bd4 fun _ _ _ _=>rfl) (noS fun _ _ _ ⟨_,_,_,_,j,hj,h⟩=>by
    cases Nat.le_zero.mp hj
    exact h)
  |succ m ih=>exact zfW (m₀:=m) (k:=3+m) ybG B (yaa:=yae.mono (by omega)) (yaP:=ybJ.mono (by omega)) (yah:=ih)
 have yaK:=ycy 3;have ybK:=zcW (P:=l.prog) (w:=w) (base:=base) (k:=6) ybH B (yaa:=yae.mono (by decide)) (yah:=yaK.mono (by decide));have yby:=zfb (P:=l.prog) (w:=w) (base:=base) (k:=2) ycp B (yaa:=yae.mono (by decide));have yaL:=zfX (P:=l.prog) (w:=w) (base:=base) (k:=1) ycx B (yaw:=ybx.mono (by decide));have ycs:=zfa (P:=l.prog) (w:=w) (base:=base) (k:=2) ycq B (yap:=yaL.mono (by decide)) (yaa:=yae.mono (by decide));have yct:=zfc (P:=l.prog) (w:=w) (base:=base) (k:=2) ycr B (yaa:=yae.mono (by decide))
 have ybR:∀ m,Kn l.prog w K mg base (1+m) "_law_may_be" (spV K false (Rl2 (rMay m))):=fun m=>by
  induction m with
  |zero=>exact zcw (k:=0) yba zbB (fun _ _ _ _ _ _=>bd2 fun _ _=>rfl) (noV fun _ _ ⟨_,_,_,h⟩=>h)
  |succ m ih=>exact zdN (m₀:=m) (k:=1+m) yba B (yal:=ih)
 have ybc:=ybR 2
 have J:∀ m,Kn l.prog w K mg base (7+m) "_law_cond" (spS K false (Tr4 (tCond m)))/\Kn l.prog w K mg base (7+m) "_law_ask" (spS K false (Tr3 (tAsk m)))/\Kn l.prog w K mg base (7+m) "_law_meeting" (spS K false (Tr5 (tMeet m)))/\Kn l.prog w K mg base (7+m) "_law_shown" (spS K false (Tr3 (tShown m)))/\Kn l.prog w K mg base (7+m) "_law_both" (spS K false (Tr4 (tBoth m)))/\Kn l.prog w K mg base (7+m) "_law_grouped" (spS K false (Tr3 (tShown m)))/\Kn l.prog w K mg base (7+m) "_law_added" (spS K false (Tr3 (tAdded m))):=fun m=>by
  induction m with
  | zero=>exact⟨zcw (k:=6) ybr yas (fun _ _ _ _ _ _=>bd4 fun _ _ _ _=>rfl) (noS fun _ _ _ ⟨_,_,_,_,deep,kvs,h,_⟩=>by omega),
    zcw (k:=6) ybI yar (fun _ _ _ _ _ _=>bd3 fun _ _ _=>rfl) (noS fun _ _ _ ⟨_,_,_,deep,h,_⟩=>by omega),
    zcw (k:=6) yaW yam (fun _ _ _ _ _ _=>bd5 fun _ _ _ _ _=>rfl) (noS fun _ _ _ ⟨_,_,_,_,_,k1,k2,h,_⟩=>by omega),
    zcw (k:=6) ybi yaf (fun _ _ _ _ _ _=>bd3 fun _ _ _=>rfl) (noS fun _ _ _ ⟨_,_,_,h,_⟩=>by omega),
    zcw (k:=6) ybs yak (fun _ _ _ _ _ _=>bd4 fun _ _ _ _=>rfl) (noS fun _ _ _ ⟨_,_,_,_,h,_⟩=>by omega),
    zcw (k:=6) yaX yab (fun _ _ _ _ _ _=>bd3 fun _ _ _=>rfl) (noS fun _ _ _ ⟨_,_,_,h,_⟩=>by omega),
    zcw (k:=6) ybj yag (fun _ _ _ _ _ _=>bd3 fun _ _ _=>rfl) (noS fun _ _ _ ⟨_,_,_,h,_⟩=>by omega)⟩
  |succ m ih=>
   obtain⟨yaI,yax,ybN,yck,ycu,ybO,ycl⟩:=ih
   exact⟨zfe (m₀:=m) (k:=7+m) ybr B (yaa:=yae.mono (by omega)) (yaQ:=ybK.mono (by omega)) (yac:=yax) (yad:=yaI) (yah:=yaK.mono (by omega)) (yaA:=yby.mono (by omega)),
    zfY (m₀:=m) (k:=7+m) ybI B (yac:=yax) (yaa:=yae.mono (by omega)) (ybo:=ycs.mono (by omega)) (ybf:=yck) (ybp:=ycu) (yaV:=ybO) (ybg:=ycl) (ybq:=yct.mono (by omega)) (yad:=yaI),
    zdm (m₀:=m) (k:=7+m) yaW B (yaa:=yae.mono (by omega)) (yad:=yaI),
    zep (m₀:=m) (k:=7+m) ybi B (yac:=yax) (yaa:=yae.mono (by omega)) (yap:=yaL.mono (by omega)) (yah:=yaK.mono (by omega)) (yal:=ybc.mono (by omega)),
    zff (m₀:=m) (k:=7+m) ybs B (yac:=yax) (yaU:=ybN),
    zdo (m₀:=m) (k:=7+m) yaX B (yac:=yax) (yaa:=yae.mono (by omega)) (yap:=yaL.mono (by omega)),
    zer (m₀:=m) (k:=7+m) ybj B (yac:=yax) (yaa:=yae.mono (by omega)) (yap:=yaL.mono (by omega)) (yaA:=yby.mono (by omega)) (yah:=yaK.mono (by omega)) (yal:=ybc.mono (by omega)) (yad:=yaI)⟩
 obtain⟨ycv,ycz,ycD,ycO,ycR,ycE,ycP⟩:=J 6
 have ybS:∀ m,Kn l.prog w K mg base (2+m) "_law_nested" (spS K false (Tr2 (tNest m))):=fun m=>by
  induction m with
  |zero=>exact zcw (k:=1) ybb yaH (fun _ _ _ _ _ _=>bd2 fun _ _=>rfl) (noS fun _ _ _ ⟨_,_,h⟩=>h)
  |succ m ih=>exact zdM (m₀:=m) (k:=2+m) ybb B (yaa:=yae.mono (by omega)) (yat:=ih)
 have ybT:=ybS 8;have ycB:=zjg (P:=l.prog) (w:=w) (base:=base) (k:=0) ycA B
 have ycw:∀ m,Kn l.prog w K mg base (1+m) "_law_flat" (spV K true (Rl1 (rFl m))):=fun m=>by
  induction m with
  |zero=>exact zcw (k:=0) ybt zcq (fun _ _ _ _ _ _=>bd1 fun _=>rfl) (noV fun _ _ ⟨_,_,h⟩=>h)
  |succ m ih=>exact zfd (m₀:=m) (k:=1+m) ybt B (yaj:=ih)
 have ybz:=ycw 9;have ybD:=zcy (P:=l.prog) (w:=w) (base:=base) (k:=10) ybB B (yaj:=ybz.mono (by decide));have ybA:=zeY (P:=l.prog) (w:=w) (base:=base) (k:=0) ycm B;have ycQ:=znW (P:=l.prog) (w:=w) (base:=base) (k:=0) ycJ B;have ycF:=zls (P:=l.prog) (w:=w) (base:=base) (k:=1) ycC B (ybU:=ycQ.mono (by decide)) (yan:=ybA.mono (by decide));have ybE:=zcx (P:=l.prog) (w:=w) (base:=base) (k:=0) ybC B
 have ybm:∀ m,Kn l.prog w K mg base (1+m) "_law_due_joined" (spV K false (Rl1 (rDj m))):=fun m=>by
  induction m with
  |zero=>exact zcw (k:=0) yaJ zaR (fun _ _ _ _ _ _=>bd1 fun _=>rfl) (noV fun _ _ ⟨_,_,h⟩=>h)
  |succ m ih=>exact zce (m₀:=m) (k:=1+m) yaJ B (yau:=ih)
 have ybn:=ybm 8;exact zpS (k:=13) Fl B (ych.mono (by decide)) (ybh:=ycj.mono (by decide)) (yac:=ycz.mono (by decide)) (yat:=ybT.mono (by decide)) (yaa:=yae.mono (by decide)) (ybV:=ycB.mono (by decide)) (yaC:=ybD.mono (by decide)) (yan:=ybA.mono (by decide)) (yad:=ycv.mono (by decide)) (ybl:=ycF.mono (by decide)) (yaD:=ybE.mono (by decide)) (yau:=ybn.mono (by decide)) (yaj:=ybz.mono (by decide))
theorem walk {l:PySem.W.OpenLaw}{q:Program}{loose:List Str}{XP:(Str->Option Value)->Heap->Prop}{YP:World->Heap->Prop}{d:DefRec}{K:Params->Frag}(hn:l.most=some 63)(hdf:d.params.defaults=[])
  (hY:∀(w:World)(h:Heap),YP w h->(K w.params).In h)
  (F:∀(w:World)(mg:Str->Option Value)(fa:Addr)(h:Heap),(K w.params).In h->h.Ns mainGlobals mg->mg d.name=some (.ref fa) ->
   ∃ fd:FuncData,(∀(s:Shared)(u:Value),BindsTo s fd ⟨[u],[]⟩ [("_law_script",u)])/\∀ base:Heap,(K w.params).In base->base.Ns mainGlobals mg->FnOk l.prog w (K w.params) mg base CX0 14 fa fd ["_law_script"] (spLaw (K w.params))) :
  PySem.W.WalkO q loose XP YP l.row.toRowW d [] (fun f vs=>PySem.call f vs):=
 L2.walk_of (n:=63) (k:=14) (x:="_law_script") (CX:=fun _=>CX0) (sp:=fun w=>spLaw (K w.params)) hn (by decide) hdf ⟨rfl,by decide,by decide⟩ hY F (fun _ _ a ns hl hO hS=>⟨a,ns,rfl,hO,hS,hl,fun _=>rfl⟩) fun _ _ _ _ _ z=>z
end K07
open PySem PySem.W PyProof.Rows
set_option maxRecDepth 100000 in
set_option maxHeartbeats 0 in
theorem PySem.Challenge.cw_everyplan_k07_conjuncts_joined_alike_holds : PySem.Challenge.rw_everyplan_k07_conjuncts_joined_alike.Holds := by
 refine holds_law K07.ow0 fun said=>?_
 refine holds_open (r:=PySem.Challenge.rw_everyplan_k07_conjuncts_joined_alike.row) (q:=K07.owQ) (loose:=[]) (Xt:=fun s=>xlAt K07.owQ [] s&&recOk [] s) (XP:=XL K07.owQ []) (Yf:=Hook.obs (kHook K07.owF K07.owA K07.owE)) (Ya:=Hook.val (kHook K07.owF K07.owA K07.owE)) (YP:=Hook.says (kHook K07.owF K07.owA K07.owE)) (N:=1200)
  (d:={ name:="law",params:=L2.defArgs K07.d_law,body:=L2.defBody K07.d_law,scope:=L2.defScope K07.d_law,pos:=K07.d_law.pos }) (kwd:=[])
  K07.left_own (Hook.of _) (Hook.keeps _) (fun s e=>xl_of s (Bool.and_eq_true_iff.mp e).1) XL.keeps (by kernel_rfl) (by kernel_rfl) (by kernel_rfl)
  (fun s e=>recFacts_of (Bool.and_eq_true_iff.mp e).2) (by rfl) said (by kernel_rfl) ⟨rfl,rfl,rfl,rfl,rfl,by decide +kernel⟩ ?hw ?hc
 case hw=>w_witness2
 k_fill
 refine K07.walk (l:=PySem.Challenge.rw_everyplan_k07_conjuncts_joined_alike) rfl rfl (fun w h Y=>PySem.W.kIn_of Y) ?F
 case F=>
  intro w mg fa h KX G hmg;refine K07.all_mk KX G hmg ?_ ?_ ?_ ?_ ?_ ?_ ?_ ?_ ?_ ?_ ?_ ?_ ?_ ?_ ?_ ?_ ?_ ?_ ?_ ?_ ?_ ?_ ?_ ?_ ?_ ?_ ?_ ?_ ?_ ?_ ?_ ?_ ?_ ?_ ?_ ?_ ?_ ?_ ?_ ?_ ?_ ?_ ?_ ?_ ?_ ?_ ?_ ?_
  all_goals first|(apply K07.df_mk KX G;iterate 4 k_is)|k_is
